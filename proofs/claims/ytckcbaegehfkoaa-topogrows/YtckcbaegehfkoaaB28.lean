/-
  The program's allMeet: which two sets an edge leads between, told by a map.
  The program's Check keeps its contract (H2).
  What Read tells is one answer; the small case that the laws of layer 9 begin with.
-/
import Derived.Test.YtckcbaegehfkoaaB25
import Derived.Test.YtckcbaegehfkoaaB13
import Derived.Maps.OwnOps
import Derived.Maps.Views
import Derived.DeepKeys4
import Derived.Lib.Walk
import Derived.BigQuiet
import Derived.Test.YtckcbaegehfkoaaB07
import Derived.Test.YtckcbaegehfkoaaB23
import Derived.Test.YtckcbaegehfkoaaB27
import Derived.Test.YtckcbaegehfkoaaB24
namespace Go.Proofs.Ytckcbaegehfkoaa
open Go.RowKit Go.Lib Go.Maps Go.WideMaps

theorem keyW : (match Try.prog.underlying 59 with | some (.array _ _) | some (.struct _) => true | _ => false) = true := by rw [Try.underlying59]
set_option maxRecDepth 100000 in
theorem keyE : Keyed Try.prog 59 := Keyed.of_law (deep_law_laid (by kernel_rfl) (m := 2) (by omega) (of_decide_eq_true (by kernel_rfl)) (by kernel_rfl) keyW)
theorem zeroB (w : World) : (zeroValue 4).run Try.prog w = .ok (.bool false) w := by kernel_rfl
/-- The key that an edge is. -/
def kE (a b : Int) : Lit := .string (keyBytes [.int .i64 a, .int .i64 b])
set_option maxRecDepth 100000 in
theorem key_edge {a b : Int} (wa : (Lit.int .i64 a).wf = true) (wb : (Lit.int .i64 b).wf = true) : keyOf Try.prog 59 (.agg #[.int .i64 a, .int .i64 b]) = some (kE a b) := by
  have hkt : Try.prog.keyType 59 = true := by kernel_rfl
  have hc : Try.prog.cellsOf 59 = 2 := by kernel_rfl
  have hci : Try.prog.cellsOf 3 = 1 := by kernel_rfl
  have hpos : 0 < Try.prog.types.size := of_decide_eq_true (by kernel_rfl)
  obtain ⟨m, hm⟩ : ∃ m, Try.prog.types.size = m + 1 := ⟨Try.prog.types.size - 1, by omega⟩
  unfold keyOf
  simp only [Try.underlying59]
  rw [if_pos (by simp [hkt, Value.formed, Try.underlying59, hc]), hm]
  unfold Program.keyLits
  simp only [Try.underlying59, Value.cells]
  rw [if_pos (by rw [hc]; exact ⟨rfl, by kernel_rfl⟩)]
  simp [hci, Program.keyLits, Try.underlying3, wa, wb, kE]
theorem key_ne {a b p q : Int} (wa : (Lit.int .i64 a).wf = true) (wb : (Lit.int .i64 b).wf = true) (wp : (Lit.int .i64 p).wf = true) (wq : (Lit.int .i64 q).wf = true) (h : (a, b) ≠ (p, q)) : kE a b ≠ kE p q := fun e => by
  have h1 := key_edge wa wb
  rw [e] at h1
  have := keyE.inj h1 (key_edge wp wq)
  simp at this
  exact h (by rw [this.1, this.2])
theorem plainElem_bool_inv {H : Type} {P : Program} {e : TypeId} (he : P.underlying e = some .bool) {v : Value} {z : DataW H × List MemPlace} (h : plainElem P e v = some z) : ∃ x, v = .bool x ∧ z = (.lit (.bool x), []) := by
  unfold plainElem at h
  rw [he] at h
  cases v <;> simp at h
  exact ⟨_, rfl, h.symm⟩
/-- A look-up of a truth in the call's own map. -/
theorem wpList_lookup_bool {H : Type} {P : Program} (w : World) {ops : Array Oper} {rest : List Oper} {o : Oper} {a : Act} {Q : Exit → Act → World → Prop}
    (hg : o.guard = none) (m x : Operand) (t : TypeId) (hop : o.op = Op.lookup t m x false)
    (k e : TypeId) (K : Keyed P k) (ht : P.underlying t = some (.map k e)) (he : P.underlying e = some .bool) (hz : (zeroValue e).run P w = .ok (.bool false) w) (b n : Nat) (D : DataW H)
    (hm : a.eval m = .map (some b)) (hown : w.ownsMap P k (plainElem P e) b n D) (key : Value) (kl : Lit) (hx : a.eval x = key) (hkey : keyOf P k key = some kl)
    (hK : ∀ c : Bool, D.atKey kl (.lit (.bool false)) = .lit (.bool c) → wpList P ops Q rest (a.put o.dst (.bool c)) w) :
    wpList P ops Q (o :: rest) a w := by
  refine wpList_plain hg fun K' hK' => ?_
  obtain ⟨v, ps, hrun, hv⟩ := hown.lookup K ht hz (plainElem_bool he false) hkey
  obtain ⟨c, rfl, hc⟩ := plainElem_bool_inv he hv
  simp only [Prod.mk.injEq] at hc
  unfold Oper.wp
  simp [execOp, hop, hm, hx, hrun, Result.andThen]
  exact hK' _ _ (hK c hc.1)
/-- A map that tells of each pair of numbers whether it stands in l. -/
def MetM (D : DataW Unit) (l : List (Int × Int)) : Prop := IsMap D ∧ ∀ a b : Int, (Lit.int .i64 a).wf = true → (Lit.int .i64 b).wf = true → D.atKey (kE a b) (.lit (.bool false)) = .lit (.bool (decide ((a, b) ∈ l)))
theorem metM_nil : MetM (.map []) [] := ⟨isMap_empty, fun _ _ _ _ => rfl⟩
theorem MetM.put {D : DataW Unit} {l : List (Int × Int)} (h : MetM D l) {p q : Int} (wp : (Lit.int .i64 p).wf = true) (wq : (Lit.int .i64 q).wf = true) : MetM (D.put (kE p q) (.lit (.bool true))) (l ++ [(p, q)]) := by
  refine ⟨h.1.put _ _, fun a b wa wb => ?_⟩
  by_cases e : (a, b) = (p, q)
  · cases e
    rw [atKey_put_same (k := kE p q) h.1 (show WideAt.IsKeyLit (kE p q) from trivial)]
    simp
  · rw [atKey_put_other (key_ne wa wb wp wq e), h.2 a b wa wb]
    congr 2
    simp [e]
theorem owns_below {P : Program} {k : TypeId} {R : Value → Option (DataW Unit × List MemPlace)} {w w' : World} {b n : Nat} {D : DataW Unit} (h : w.ownsMap P k R b n D) (hb : Below w.heap.size w w') : w'.ownsMap P k R b n D := by
  have hlt := h.lt
  obtain ⟨es, clock, h1, F, hs, hD⟩ := h
  exact ⟨es, clock, (hb.block b hlt).trans h1, F, hs, hD⟩

set_option maxHeartbeats 4000000 in
set_option maxRecDepth 100000 in
theorem notMet_any (B M n0 : Nat) (Dm : DataW Unit) (l : List (Int × Int)) (a b : Int) (w : World) (hc : w.cell? ⟨B, 0, none⟩ = some (.map (some M))) (hown : w.ownsMap Try.prog 59 (plainElem Try.prog 4) M n0 Dm) (hM : MetM Dm l) (wa : (Lit.int .i64 a).wf = true) (wb : (Lit.int .i64 b).wf = true) :
    Calls Try.prog 89 #[.agg #[.int .i64 a, .int .i64 b], .pointer (some ⟨B, 0, none⟩)] w fun e w' => e = .returned (.bool (!decide ((a, b) ∈ l))) ∧ Below w.heap.size w w' := by
  have o := heap_alloc_new w (.cells #[.int .i64 a, .int .i64 b] 59)
  have hb := below_one w (.cells #[.int .i64 a, .int .i64 b] 59)
  obtain ⟨W1, hW1⟩ := ex_eq (w.alloc (.cells #[.int .i64 a, .int .i64 b] 59))
  rw [← hW1] at o hb
  have c0 := cell_of_heap o 0
  have c1 := cell_of_heap o 1
  have m0 := (hb.cell (p := ⟨B, 0, none⟩) (block_lt_of_cell hc)).trans hc
  have HOWN := hid (owns_below hown hb)
  have HAT := hid (hM.2 a b wa wb)
  have HKEY := hid (key_edge wa wb)
  have HB := hid hb
  have HW1 := hid hW1
  obtain ⟨r, hr⟩ := ex_eq (decide ((a, b) ∈ l))
  rw [← hr] at HAT ⊢
  clear hc hown hM wa wb hb o hW1 hr
  go_enter Try.func89, Try.ntmps89
  go_upto_region 1 with fail
  rw [← HW1.out]
  go_wp2_with (at_lookup; refine wpList_lookup_bool _ rfl _ _ 118 rfl 59 4 keyE Try.underlying118 Try.underlying4 (zeroB _) M n0 _ rfl HOWN.out _ _ rfl HKEY.out ?_; intro c hat; obtain rfl : c = r := by { have := hat.symm.trans HAT.out; simpa using this })
  go_ret
  exact ⟨rfl, HB.out⟩
set_option maxHeartbeats 4000000 in
set_option maxRecDepth 100000 in
theorem metIndex_any (B M n0 : Nat) (Dm : DataW Unit) (l : List (Int × Int)) (pa : Option Addr) (pc : Nat) (ps : List (Int × Int)) (w : World) (hc : w.cell? ⟨B, 0, none⟩ = some (.map (some M))) (hown : w.ownsMap Try.prog 59 (plainElem Try.prog 4) M n0 Dm) (hM : MetM Dm l) (hL : ps.length ≤ 1000000) (hP : EAt w pa ps) (hw : ∀ p ∈ ps, (Lit.int .i64 p.1).wf = true ∧ (Lit.int .i64 p.2).wf = true) :
    Calls Try.prog 113 #[.slice pa ps.length pc, .func (.func 89) #[] #[.pointer (some ⟨B, 0, none⟩)]] w fun e w' => ∃ r : Int, e = .returned (.int .i64 r) ∧ (0 ≤ r ↔ ¬ ∀ p ∈ ps, p ∈ l) ∧ Below w.heap.size w w' := by
  obtain ⟨K, hK⟩ := ex_eq ps.length
  rw [← hK] at hL ⊢
  have HM := hid hK
  have HI := hid hP
  have HWF := hid hw
  have HC : Hid (∀ X a b, Below w.heap.size w X → (Lit.int .i64 a).wf = true → (Lit.int .i64 b).wf = true → Calls Try.prog 89 #[.agg #[.int .i64 a, .int .i64 b], .pointer (some ⟨B, 0, none⟩)] X fun e w' => e = .returned (.bool (!decide ((a, b) ∈ l))) ∧ Below X.heap.size X w') := fun X a b hX wa wb =>
    notMet_any B M n0 Dm l a b X ((hX.cell (p := ⟨B, 0, none⟩) (block_lt_of_cell hc)).trans hc) (owns_below hown hX) hM wa wb
  clear hK hP hc hown hM hw
  go_enter Try.func113, Try.ntmps113
  go_wp2
  go_loopg [8] K (fun Gh i wz => ∃ k : Nat, k ≤ K ∧ K - k ≤ Gh ∧ i = .int .i64 k ∧ Hid (∀ p ∈ ps.take k, p ∈ l) ∧ Hid (Below w.heap.size w wz))
  case atStart => exact ⟨0, Nat.zero_le _, by omega, rfl, (fun x hx => by simp at hx), Below.refl _ _⟩
  case round =>
    obtain ⟨k, hk, hGh, rfl, hin, hbr⟩ := hrel
    by_cases hlt : k < K
    · have hkr : k < ps.length := by rw [← HM.out]; exact hlt
      obtain ⟨g, off, rfl, hgl, hcs⟩ := HI.out (by omega)
      obtain ⟨d0, d1⟩ := hcs k hkr
      have d0 := (hbr.out.cell (p := ⟨g, off + k * 2, none⟩) hgl).trans d0
      have d1 := (hbr.out.cell (p := ⟨g, off + k * 2 + 1, none⟩) hgl).trans d1
      obtain ⟨wa, wb⟩ := HWF.out _ (List.getElem_mem hkr)
      obtain ⟨p, hp⟩ := ex_eq ps[k].1
      obtain ⟨q, hq⟩ := ex_eq ps[k].2
      rw [← hp] at d0 wa
      rw [← hq] at d1 wb
      have q1 : (k : Int) < (K : Int) := by omega
      have HX : Hid (ps[k] = (p, q)) := by show _ = _; rw [hp, hq]
      have HKR : Hid (k < ps.length) := hkr
      have C := hid (HC.out wr p q hbr.out wa wb)
      obtain ⟨r, hr⟩ := ex_eq (decide ((p, q) ∈ l))
      rw [← hr] at C
      have HR := hid hr
      clear hcs hr hp hq wa wb
      go_wp2_with fail
      refine C.out.mono ?_
      rintro e w2 ⟨rfl, hb2⟩
      have HB2 : Hid (Below w.heap.size w w2) := hbr.out.trans (hb2.mono hbr.out.size)
      clear hb2 C d0 d1
      cases r with
      | true =>
        have HNX : Hid (∀ p ∈ ps.take (k + 1), p ∈ l) := fun z hz => by
          rw [List.take_append_getElem HKR.out |>.symm] at hz
          rcases List.mem_append.1 hz with hz | hz
          · exact hin.out z hz
          · simp at hz; subst hz; rw [HX.out]; exact of_decide_eq_true HR.out.symm
        clear hin HX HR
        go_wp2
        go_roundg (K - (k + 1))
        case measure => omega
        case rel => exact ⟨k + 1, by omega, Nat.le_refl _, by go_num, HNX, HB2⟩
      | false =>
        have HNI : Hid (¬ ∀ p ∈ ps, p ∈ l) := fun h => by
          have := h _ (List.getElem_mem HKR.out)
          rw [HX.out] at this
          exact absurd this (of_decide_eq_false HR.out.symm)
        clear hin HX HR
        go_wp2
        go_ret
        exact ⟨_, rfl, ⟨fun _ => HNI.out, fun _ => by omega⟩, HB2.out⟩
    · obtain rfl : k = K := by omega
      have HIN : Hid (∀ p ∈ ps, p ∈ l) := by
        have := hin.out
        rw [HM.out, List.take_length] at this
        exact this
      clear hin
      go_wp2
      go_ret
      exact ⟨_, rfl, ⟨fun h => by omega, fun h => absurd HIN.out h⟩, hbr.out⟩
set_option maxHeartbeats 4000000 in
set_option maxRecDepth 100000 in
theorem metContains_any (B M n0 : Nat) (Dm : DataW Unit) (l : List (Int × Int)) (pa : Option Addr) (pc : Nat) (ps : List (Int × Int)) (u : Bool) (w : World) (hc : w.cell? ⟨B, 0, none⟩ = some (.map (some M))) (hown : w.ownsMap Try.prog 59 (plainElem Try.prog 4) M n0 Dm) (hM : MetM Dm l) (hL : ps.length ≤ 1000000) (hP : EAt w pa ps) (hw : ∀ p ∈ ps, (Lit.int .i64 p.1).wf = true ∧ (Lit.int .i64 p.2).wf = true) (hu : u = true ↔ ∀ p ∈ ps, p ∈ l) :
    Calls Try.prog 88 #[.slice pa ps.length pc, .func (.func 89) #[] #[.pointer (some ⟨B, 0, none⟩)]] w fun e w' => e = .returned (.bool (!u)) ∧ Below w.heap.size w w' := by
  have C := hid (metIndex_any B M n0 Dm l pa pc ps w hc hown hM hL hP hw)
  have HU := hid hu
  obtain ⟨K, hK⟩ := ex_eq ps.length
  rw [← hK] at C ⊢
  clear hu hP hc hown hM hw hK hL
  go_enter Try.func88, Try.ntmps88
  go_wp2_with fail
  refine C.out.mono ?_
  rintro e w2 ⟨r, rfl, hr, hb2⟩
  have HB := hid hb2
  have HR := hid hr
  clear C hr hb2
  by_cases h : 0 ≤ r
  · have e1 : decide (r ≥ 0) = true := decide_eq_true h
    have e2 : decide (0 ≤ r) = true := decide_eq_true h
    go_wp2
    go_ret
    refine ⟨?_, HB.out⟩
    cases u with
    | true => exact absurd (HU.out.1 rfl) (HR.out.1 h)
    | false => rfl
  · have e1 : decide (r ≥ 0) = false := decide_eq_false h
    have e2 : decide (0 ≤ r) = false := decide_eq_false h
    go_wp2
    go_ret
    refine ⟨?_, HB.out⟩
    cases u with
    | true => rfl
    | false => exact absurd (HR.out.2 (fun k => by have := HU.out.2 k; cases this)) (by omega)
theorem wf_min {a b : Int} (wa : (Lit.int .i64 a).wf = true) (wb : (Lit.int .i64 b).wf = true) : (Lit.int .i64 (min a b)).wf = true ∧ (Lit.int .i64 (max a b)).wf = true := by
  by_cases h : a ≤ b
  · rw [show min a b = a by omega, show max a b = b by omega]; exact ⟨wa, wb⟩
  · rw [show min a b = b by omega, show max a b = a by omega]; exact ⟨wb, wa⟩

set_option maxHeartbeats 4000000 in
set_option maxRecDepth 100000 in
theorem allMeet_any (n : Nat) (ea : Option Addr) (ec : Nat) (es : List (Int × Int)) (g : Nat) (D : Nat → Int) (pa : Option Addr) (pc : Nat) (ps : List (Int × Int)) (r : Bool) (w : World) (hN : es.length ≤ 1000000) (hin : ∀ e ∈ es, (0 ≤ e.1 ∧ e.1 < (n : Int)) ∧ (0 ≤ e.2 ∧ e.2 < (n : Int))) (hE : EAt w ea es) (hD : Row1 w g n D) (hDw : ∀ x, x < n → (Lit.int .i64 (D x)).wf = true)
    (hP : EAt w pa ps) (hpl : ps.length ≤ 1000000) (hpw : ∀ p ∈ ps, (Lit.int .i64 p.1).wf = true ∧ (Lit.int .i64 p.2).wf = true) (hr : r = true ↔ ∀ p ∈ ps, p ∈ es.map (metE (fun x => D x.toNat))) :
    Calls Try.prog 58 #[.slice ea es.length ec, .slice (some ⟨g, 0, none⟩) n n, .slice pa ps.length pc] w fun e w' => e = .returned (.bool r) ∧ Below w.heap.size w w' := by
  have hmm := @run_makeMap Try.prog
  obtain ⟨N, hNe⟩ := ex_eq es.length
  have HN := hid hNe
  have HE := hid hE
  have HIN := hid hin
  have HDR := hid hD
  have HDW := hid hDw
  obtain ⟨W1, hW1⟩ := ex_eq ((w.alloc (.map #[] 0)).alloc (.cells #[.map (some w.heap.size)] 118))
  have hb1 : Below w.heap.size w W1 := by rw [hW1]; exact ((Below.refl _ _).alloc (Nat.le_refl _) _).alloc (by simp) _
  have hs1 : W1.heap.size = w.heap.size + 2 := by rw [hW1]; simp
  have m0 : W1.cell? ⟨w.heap.size + 1, 0, none⟩ = some (.map (some w.heap.size)) := by
    have := cell_of_heap (heap_alloc_new (w.alloc (.map #[] 0)) (.cells #[.map (some w.heap.size)] 118)) 0
    rw [← hW1, World.size_alloc] at this
    exact this
  have HM0 : Hid (W1.ownsMap Try.prog 59 (plainElem Try.prog 4) w.heap.size 0 (.map [] : DataW Unit)) := by
    show World.ownsMap _ _ _ _ _ _ _
    rw [hW1]
    exact (World.ownsMap_made w _ _ _).alloc _
  have HCF : Hid (∀ X n0 Dm, Below w.heap.size w X → X.cell? ⟨w.heap.size + 1, 0, none⟩ = some (.map (some w.heap.size)) → X.ownsMap Try.prog 59 (plainElem Try.prog 4) w.heap.size n0 Dm → MetM Dm (es.map (metE (fun x => D x.toNat))) → Calls Try.prog 88 #[.slice pa ps.length pc, .func (.func 89) #[] #[.pointer (some ⟨w.heap.size + 1, 0, none⟩)]] X fun e w' => e = .returned (.bool (!r)) ∧ Below X.heap.size X w') := fun X n0 Dm hX hc ho hm =>
    metContains_any (w.heap.size + 1) w.heap.size n0 Dm _ pa pc ps r X hc ho hm hpl (hP.below hX) hpw hr
  obtain ⟨K, hK⟩ := ex_eq ps.length
  rw [← hK] at HCF ⊢
  have HW1 := hid hW1
  have HB1 := hid hb1
  have HM1 := hid m0
  rw [← hNe] at hN ⊢
  clear hNe hE hin hD hDw hW1 hb1 hP hpl hpw hr hK m0
  go_enter Try.func58, Try.ntmps58
  go_upto_region 2 with fail
  clear hmm
  rw [← HW1.out]
  go_wp2
  go_loopg [15] N (fun Gh i wz => ∃ (k n0 : Nat) (Dm : DataW Unit), k ≤ N ∧ N - k ≤ Gh ∧ i = .int .i64 k ∧ Hid (wz.ownsMap Try.prog 59 (plainElem Try.prog 4) w.heap.size n0 Dm ∧ n0 ≤ k ∧ MetM Dm ((es.take k).map (metE (fun x => D x.toNat)))) ∧ Hid (Below w.heap.size w wz) ∧ Hid (wz.cell? ⟨w.heap.size + 1, 0, none⟩ = some (.map (some w.heap.size)) ∧ w.heap.size + 2 ≤ wz.heap.size))
  case atStart => exact ⟨0, 0, .map [], Nat.zero_le _, by omega, rfl, ⟨HM0.out, Nat.le_refl _, metM_nil⟩, HB1.out, HM1.out, by omega⟩
  case round =>
    clear HM0
    obtain ⟨k, n0, Dm, hk, hGh, rfl, hM, hb, hmc⟩ := hrel
    by_cases hlt : k < N
    · have hkr : k < es.length := by rw [← HN.out]; exact hlt
      obtain ⟨ge, off, rfl, hge, hcs⟩ := HE.out (by omega)
      obtain ⟨x0, x1⟩ := hcs k hkr
      have d0 := (hb.out.cell (p := ⟨ge, off + k * 2, none⟩) hge).trans x0
      have d1 := (hb.out.cell (p := ⟨ge, off + k * 2 + 1, none⟩) hge).trans x1
      have hin := HIN.out _ (List.getElem_mem hkr)
      obtain ⟨p, hp⟩ : ∃ p : Nat, es[k].1 = (p : Int) := ⟨es[k].1.toNat, by omega⟩
      obtain ⟨q, hq⟩ : ∃ q : Nat, es[k].2 = (q : Int) := ⟨es[k].2.toNat, by omega⟩
      rw [hp] at d0
      rw [hq] at d1
      have hpn : p < n := by omega
      have hqn : q < n := by omega
      have q1 : (k : Int) < (N : Int) := by omega
      have q2 : (p : Int) < (n : Int) := by omega
      have q3 : (q : Int) < (n : Int) := by omega
      obtain ⟨W3, hW3⟩ := ex_eq (wr.alloc (.cells #[.int .i64 p, .int .i64 q] 59))
      have hb3 : Below wr.heap.size wr W3 := by rw [hW3]; exact below_one _ _
      have o3 := heap_alloc_new wr (.cells #[.int .i64 p, .int .i64 q] 59)
      rw [← hW3] at o3
      have e0 := cell_of_heap o3 0
      have e1 := cell_of_heap o3 1
      have hbw3 : Below w.heap.size w W3 := hb.out.trans (hb3.mono hb.out.size)
      obtain ⟨dp, hdp⟩ := ex_eq (D p)
      obtain ⟨dq, hdq⟩ := ex_eq (D q)
      have r0 := (hbw3.cell (p := ⟨g, p, none⟩) HDR.out.1).trans (HDR.out.2 p hpn).1
      have r1 := (hbw3.cell (p := ⟨g, q, none⟩) HDR.out.1).trans (HDR.out.2 q hqn).1
      rw [← hdp] at r0
      rw [← hdq] at r1
      have m3 := (hb3.cell (p := ⟨w.heap.size + 1, 0, none⟩) (by simp only; have := hmc.out.2; omega)).trans hmc.out.1
      have hww := wf_min (by rw [hdp]; exact HDW.out p hpn : (Lit.int .i64 dp).wf = true) (by rw [hdq]; exact HDW.out q hqn : (Lit.int .i64 dq).wf = true)
      have HKEY := hid (key_edge hww.1 hww.2)
      have HOWN : Hid (W3.ownsMap Try.prog 59 (plainElem Try.prog 4) w.heap.size n0 Dm) := owns_below hM.out.1 hb3
      have hn0 : n0 < 1000001 := by have := hM.out.2.1; omega
      have HPUT : Hid (MetM (Dm.put (kE (min dp dq) (max dp dq)) (.lit (.bool true))) ((es.take (k + 1)).map (metE (fun x => D x.toNat)))) := by
        have := hM.out.2.2.put hww.1 hww.2
        rw [← List.take_append_getElem hkr, List.map_append]
        have e : metE (fun x => D x.toNat) es[k] = (min dp dq, max dp dq) := by
          unfold metE
          rw [hp, hq, hdp, hdq]; rfl
        rw [List.map_singleton, e]
        exact this
      have HAFT : Hid (∀ w4 nq, (W3.drewN nq).grownBy w4 (some w.heap.size) → Below w.heap.size w w4 ∧ (w4.cell? ⟨w.heap.size + 1, 0, none⟩ = some (.map (some w.heap.size)) ∧ w.heap.size + 2 ≤ w4.heap.size)) := fun w4 nq hg => by
        have hbd : Below w.heap.size w (W3.drewN nq) := below_drewN hbw3 nq
        refine ⟨hbd.grown hg hbd.size (fun q hq => by cases hq; exact Nat.le_refl _), ?_, ?_⟩
        · have := hg.block (w.heap.size + 1) (block_lt_of_cell m3) (by simp)
          rw [World.cell?_of_block (w := W3.drewN nq) this]; exact m3
        · have h1 : W3.heap.size ≤ w4.heap.size := hg.size
          have h2 := hb3.size
          have h3 := hmc.out.2
          omega
      have HN0 : Hid (n0 + 1 ≤ k + 1) := Nat.succ_le_succ hM.out.2.1
      have HW3 := hid hW3
      clear hcs x0 x1 hin hp hq hW3 hb3 o3 hbw3 hdp hdq hww hM hb hmc hkr
      go_upto_region 5 with fail
      rw [← HW3.out]
      clear d0 d1
      go_quiet (fail)
      go_wp2_with (at_mapUpdate; refine wpList_mapUpdate_own _ rfl _ _ _ 118 rfl 59 4 keyE Try.underlying118 _ w.heap.size n0 _ rfl HOWN.out (by unfold maxLen; omega) _ _ _ rfl rfl HKEY.out _ [] (plainElem_bool Try.underlying4 true) ?_)
      intro w4 hown4 hgrow4
      obtain ⟨hb4, hm4⟩ := HAFT.out w4 _ hgrow4
      have HB4 := hid hb4
      have HM4 := hid hm4
      have HO4 : Hid (w4.ownsMap Try.prog 59 (plainElem Try.prog 4) w.heap.size (n0 + 1) (Dm.put (kE (min dp dq) (max dp dq)) (.lit (.bool true))) ∧ n0 + 1 ≤ k + 1 ∧ MetM (Dm.put (kE (min dp dq) (max dp dq)) (.lit (.bool true))) ((es.take (k + 1)).map (metE (fun x => D x.toNat)))) := ⟨hown4, HN0.out, HPUT.out⟩
      clear hb4 hm4 hown4 hgrow4 HAFT HPUT HN0 HOWN HKEY m3 r0 r1 e0 e1
      go_wp2
      go_roundg (N - (k + 1))
      case measure => omega
      case rel => exact ⟨k + 1, n0 + 1, _, by omega, Nat.le_refl _, by go_num, HO4, HB4, HM4⟩
    · obtain rfl : k = N := by omega
      have HMA : Hid (wr.ownsMap Try.prog 59 (plainElem Try.prog 4) w.heap.size n0 Dm ∧ MetM Dm (es.map (metE (fun x => D x.toNat)))) := by
        refine ⟨hM.out.1, ?_⟩
        have := hM.out.2.2
        rw [HN.out, List.take_length] at this
        exact this
      have m3 := hmc.out.1
      have CC := hid (HCF.out wr n0 Dm hb.out m3 HMA.out.1 HMA.out.2)
      clear hM hmc HMA HCF
      go_wp2_with fail
      refine CC.out.mono ?_
      rintro e w5 ⟨rfl, hb5⟩
      have HB5 : Hid (Below w.heap.size w w5) := hb.out.trans (hb5.mono hb.out.size)
      clear hb5 CC m3
      go_wp2
      go_ret
      exact ⟨by simp, HB5.out⟩
end Go.Proofs.Ytckcbaegehfkoaa
namespace Go.Proofs.Ytckcbaegehfkoaa
open Go.RowKit Go.Lib

theorem model_of {m : Nat} {es : List (Int × Int)} {k : Int} {Ss : List (List Int)} {D : Nat → Int} (hk : k = 1 ∨ k = 2) (hR : RightG m es) (hl : Ss.length = patN k) (hw : ∀ S ∈ Ss, WholeL m es S) (ha : ApartS Ss) (hD : HomeIs m Ss (fun x => D x.toNat)) : (∀ p ∈ patE k, p ∈ es.map (metE (fun x => D x.toNat))) ↔ ModelL m es k Ss := by
  have hin : ∀ i, ∀ x ∈ Ss.getD i [], 0 ≤ x ∧ x < (m : Int) := fun i x hx => (hw _ (getD_mem (mem_getD hx))).inn x hx
  constructor
  · intro h
    exact ⟨hk, hR, hl, hw, ha, fun e he => (meet_iff hR hl hin hD e he).1 (h e he)⟩
  · intro h p hp
    exact (meet_iff hR hl hin hD p hp).2 (h.meet p hp)

theorem bool_one {r s : Bool} {X Y : Prop} (h : r = true ↔ X) (k : s = true ↔ Y) (e : Y ↔ X) : s = r := by
  cases r <;> cases s
  · rfl
  · have := h.2 (e.1 (k.1 rfl)); cases this
  · have := k.2 (e.2 (h.1 rfl)); cases this
  · rfl
set_option maxHeartbeats 8000000 in
set_option maxRecDepth 100000 in
theorem check_any (n : Int) (a : Option Addr) (cap : Nat) (es : List (Int × Int)) (b : Bool) (k : Int) (sa : Option Addr) (sc : Nat) (Ss : List (List Int)) (r : Bool) (w : World) (hN : es.length ≤ 1000000) (hE : EAt w a es) (hb : b = true ↔ RightG n es) (hS : Ss.length ≤ 1000) (hSl : ∀ S ∈ Ss, S.length ≤ 1000000) (hL : LLAt w sa Ss) (hr : r = true ↔ ModelL n es k Ss) :
    Calls Try.prog 25 #[.agg #[.int .i64 n, .slice a es.length cap], .agg #[.int .i64 k, .slice sa Ss.length sc]] w fun e w' => e = .returned (.bool r) ∧ Below w.heap.size w w' := by
  obtain ⟨N, hNe⟩ := ex_eq es.length
  obtain ⟨M, hMe⟩ := ex_eq Ss.length
  obtain ⟨W, hW, hsW, hO0, hO1, hbW⟩ := new_two w (.cells #[.int .i64 n, .slice a N cap] 30) (.cells #[.int .i64 k, .slice sa M sc] 44)
  have HGC : Hid (∀ X, Below W.heap.size W X → GC X w.heap.size n a N cap es ∧ Below w.heap.size w X ∧ (X.cell? ⟨w.heap.size + 1, 0, none⟩ = some (.int .i64 k) ∧ X.cell? ⟨w.heap.size + 1, 1, none⟩ = some (.slice sa M sc)) ∧ LLAt X sa Ss) := fun X hX => by
    have o := (hX.block _ (by omega)).trans hO0
    have o1 := (hX.block (w.heap.size + 1) (by omega)).trans hO1
    have hbx : Below w.heap.size w X := hbW.trans (hX.mono (by omega))
    exact ⟨⟨cell_of_heap o 0, cell_of_heap o 1, hE.below hbx⟩, hbx, ⟨cell_of_heap o1 0, cell_of_heap o1 1⟩, hL.below hbx⟩
  have CW : Hid (∀ X (pa : Option Addr) (pc : Nat) (p : List Int) (r1 : Bool), Below W.heap.size W X → p.length ≤ 1000000 → IAt X pa p → (r1 = true ↔ (RightG n es ∧ WholeL n es p)) → Calls Try.prog 56 #[.agg #[.int .i64 n, .slice a N cap], .slice pa p.length pc] X fun e w' => e = .returned (.bool r1) ∧ Below X.heap.size X w') := fun X pa pc p r1 hX hp hI hr1 => by
    rw [hNe]; exact whole_any n a cap es pa pc p b r1 X hN hp (HGC.out X hX).1.at_ hI hb hr1
  have CH : Hid (∀ X (m : Nat), n = m → m ≤ 1000 → Below W.heap.size W X → (∀ S ∈ Ss, WholeL n es S) → Calls Try.prog 57 #[.int .i64 m, .slice sa M sc] X fun e w' => ((∃ g D, e = .returned (.tuple #[.slice (some ⟨g, 0, none⟩) m m, .bool true]) ∧ Row1 w' g m D ∧ X.heap.size ≤ g ∧ HomeIs m Ss (fun x => D x.toNat) ∧ ApartS Ss ∧ ∀ x, x < m → (Lit.int .i64 (D x)).wf = true) ∨ (e = .returned (.tuple #[.slice none 0 0, .bool false]) ∧ ¬ ApartS Ss)) ∧ Below X.heap.size X w') := fun X m hm h1 hX hw => by
    rw [hMe]; subst hm
    exact homes_any m sa sc Ss X h1 hS (HGC.out X hX).2.2.2 (fun i x hx => (hw _ (getD_mem (mem_getD hx))).inn x hx) (fun S hS' => (hw S hS').nd)
  have CA : Hid (∀ X (m : Nat) (g : Nat) (D : Nat → Int) (pa : Option Addr) (pc : Nat) (r3 : Bool), n = m → RightG n es → Below W.heap.size W X → Row1 X g m D → (∀ x, x < m → (Lit.int .i64 (D x)).wf = true) → EAt X pa (patE k) → (r3 = true ↔ ∀ p ∈ patE k, p ∈ es.map (metE (fun x => D x.toNat))) → Calls Try.prog 58 #[.slice a N cap, .slice (some ⟨g, 0, none⟩) m m, .slice pa (patE k).length pc] X fun e w' => e = .returned (.bool r3) ∧ Below X.heap.size X w') := fun X m g D pa pc r3 hm hR hX hD hDw hP hr3 => by
    rw [hNe]; subst hm
    refine allMeet_any m a cap es g D pa pc (patE k) r3 X hN (fun e he => ?_) (HGC.out X hX).1.at_ hD hDw hP (by unfold patE; split <;> (try split) <;> simp) (fun p hp => ?_) hr3
    · have := hR.2.2.2.1 e he; omega
    · have h1 := patE_in hp
      have h2 : patN k ≤ 5 := by unfold patN; split <;> (try split) <;> omega
      exact ⟨WalkArith.wf_i64 (by omega), WalkArith.wf_i64 (by omega)⟩
  have HB1 : Hid (∀ X, Below W.heap.size W X → Below w.heap.size w X) := fun X hX => (HGC.out X hX).2.1
  have HMM := hid hMe
  have HR := hid hr
  have HSL := hid hSl
  have HW := hid hW
  have CP := hid (pattern_any k W)
  rw [← hMe] at hS ⊢
  rw [← hNe]
  clear hNe hMe hW hO0 hO1 hbW hE hb hr hSl hL hN
  obtain ⟨g0, g1⟩ := (HGC.out W (Below.refl _ _)).1.cells
  obtain ⟨m0, m1⟩ := (HGC.out W (Below.refl _ _)).2.2.1
  go_enter Try.func25, Try.ntmps25
  go_wp2_with fail
  rw [← HW.out]
  refine CP.out.mono ?_
  rintro e w1 ⟨v, rfl, pa, pc, rfl, hP, _, hb1⟩
  obtain ⟨P0, hP0⟩ := ex_eq (patE k).length
  obtain ⟨W2, hW2⟩ := ex_eq (w1.alloc (.cells #[.int .i64 (patN k : Nat), .slice pa P0 pc] 30))
  have o2 := heap_alloc_new w1 (.cells #[.int .i64 (patN k : Nat), .slice pa P0 pc] 30)
  have hbw : Below w1.heap.size w1 W2 := by rw [hW2]; exact below_one _ _
  rw [← hW2] at o2
  have hbW2 : Below W.heap.size W W2 := hb1.trans (hbw.mono hb1.size)
  obtain ⟨_, _, ⟨m0, m1⟩, _⟩ := HGC.out W2 hbW2
  have p0 := cell_of_heap o2 0
  have p1 := cell_of_heap o2 1
  have HO2 := hid o2
  have HP2 := hid (hP.below hbw)
  have HBW2 := hid hbW2
  have HW2 := hid hW2
  have HP0 := hid hP0
  rw [← hP0]
  have hw1 : w1.heap.size < W2.heap.size := (Array.getElem?_eq_some_iff.1 o2).1
  clear CP hP hb1 hbw hW2 o2 hbW2 g0 g1 HW hP0
  go_upto_region 2 with fail
  rw [← HW2.out]
  clear HW2
  by_cases hk : k = 1 ∨ k = 2
  · obtain ⟨K, hK⟩ := ex_eq (patN k)
    have hK4 : 4 ≤ K := by rw [hK]; unfold patN; rcases hk with rfl | rfl <;> decide
    rw [← hK] at p0
    have q0 : ¬ (K : Int) = 0 := by omega
    have q0b : ((K : Int) == 0) = false := by simp; omega
    by_cases hlen : M = K
    · subst hlen
      have q5 : ((M : Int) != (M : Int)) = false := by simp
      have HKM := hid hK
      clear hK
      go_wp2
      clear m0 m1 p0 p1
      go_loopw [27] (fun i wz => ∃ t : Nat, t ≤ M ∧ i = .int .i64 t ∧ Hid (∀ S ∈ Ss.take t, WholeL n es S) ∧ Hid (t ≠ 0 → RightG n es) ∧ Hid (Below W2.heap.size W2 wz)) (fun i _ => M - (RowKit.intOf i).toNat)
      case atStart => exact ⟨0, Nat.zero_le _, rfl, (fun S hS' => by simp at hS'), (fun h => absurd rfl h), Below.refl _ _⟩
      case round =>
        obtain ⟨t, ht, rfl, hw, hrg, hb⟩ := hrel
        have hX : Below W.heap.size W wr := HBW2.out.trans (hb.out.mono HBW2.out.size)
        obtain ⟨hg, _, ⟨m0, m1⟩, hll⟩ := HGC.out wr hX
        obtain ⟨g0, g1⟩ := hg.cells
        have HX := hid hX
        by_cases hlt : t < M
        · have htr : t < Ss.length := by rw [← HMM.out]; exact hlt
          obtain ⟨gs, off, ak, ck, rfl, c0, hI⟩ := hll.at htr
          obtain ⟨r1, hr1⟩ := boolR_of (RightG n es ∧ WholeL n es Ss[t])
          have CWt := hid (CW.out wr ak ck Ss[t] r1 hX (HSL.out _ (List.getElem_mem htr)) hI hr1)
          obtain ⟨J, hJ⟩ := ex_eq Ss[t].length
          rw [← hJ] at c0 CWt
          have HR1 := hid hr1
          have HTR : Hid (∃ h : t < Ss.length, True) := ⟨htr, trivial⟩
          have q1 : (t : Int) < (M : Int) := by omega
          have HMEM : Hid (Ss[t] ∈ Ss) := List.getElem_mem htr
          have HNXW : Hid (RightG n es ∧ WholeL n es Ss[t] → ∀ S ∈ Ss.take (t + 1), WholeL n es S) := fun h S hS' => by
            rw [← List.take_append_getElem htr] at hS'
            rcases List.mem_append.1 hS' with hS' | hS'
            · exact hw.out S hS'
            · simp at hS'; subst hS'; exact h.2
          clear hg hll hI hr1 hJ hX hw
          go_wp2_with fail
          refine CWt.out.mono ?_
          rintro e w3 ⟨rfl, hb3⟩
          have HB3 : Hid (Below W2.heap.size W2 w3) := hb.out.trans (hb3.mono hb.out.size)
          clear CWt hb3 g0 g1 m0 m1 c0
          cases r1 with
          | false =>
            obtain rfl : r = false := b_false HR.out (fun h => by
              have := HR1.out.2 ⟨h.right, h.whole _ HMEM.out⟩
              cases this)
            clear HR HNXW HMEM HR1
            go_wp2
            go_ret
            exact ⟨rfl, HB1.out _ (HBW2.out.trans (HB3.out.mono HBW2.out.size))⟩
          | true =>
            have HNX := hid (HNXW.out (HR1.out.1 rfl))
            have HRX : Hid (t + 1 ≠ 0 → RightG n es) := fun _ => (HR1.out.1 rfl).1
            clear HNXW HMEM HR1 hrg
            go_wp2
            go_roundw
            case rel => exact ⟨t + 1, by omega, by go_num, HNX, HRX, HB3⟩
            case measure => simp [RowKit.intOf]; omega
        · obtain rfl : t = M := by omega
          have HALL : Hid (∀ S ∈ Ss, WholeL n es S) := by
            have := hw.out
            rw [HMM.out, List.take_length] at this
            exact this
          have HRG : Hid (RightG n es) := hrg.out (by omega)
          obtain ⟨m, rfl⟩ : ∃ m : Nat, n = m := ⟨n.toNat, by have := HRG.out.1; omega⟩
          have CHt := hid (CH.out wr m rfl (by have := HRG.out.2.1; omega) hX HALL.out)
          clear hg hll hX hw hrg
          go_wp2_with fail
          refine CHt.out.mono ?_
          rintro e w4 ⟨h4, hb4⟩
          have hX4 : Below W.heap.size W w4 := HX.out.trans (hb4.mono HX.out.size)
          have hb24 : Below W2.heap.size W2 w4 := hb.out.trans (hb4.mono hb.out.size)
          obtain ⟨hg4, _, _, _⟩ := HGC.out w4 hX4
          clear CHt g0 g1 m0 m1
          rcases h4 with ⟨g, D, rfl, hrow, hgl, hH, hA, hDw⟩ | ⟨rfl, hna⟩
          · obtain ⟨g0, g1⟩ := hg4.cells
            have o4 := (hb24.block w1.heap.size hw1).trans HO2.out
            have p1 := cell_of_heap o4 1
            obtain ⟨r3, hr3⟩ := boolR_of (∀ p ∈ patE k, p ∈ es.map (metE (fun x => D x.toNat)))
            have CAt := hid (CA.out w4 m g D pa pc r3 rfl HRG.out hX4 hrow hDw (HP2.out.below hb24) hr3)
            rw [← HP0.out] at CAt
            obtain rfl : r3 = r := bool_one HR.out hr3 (model_of hk HRG.out (by rw [← HMM.out]; exact HKM.out) HALL.out hA hH)
            have HX4 := hid hX4
            clear hg4 hrow hgl hH hA hDw hr3 hX4 hb24 o4 hb4 HR
            go_wp2_with fail
            refine CAt.out.mono ?_
            rintro e w5 ⟨rfl, hb5⟩
            have HB5 := hid (HB1.out _ (HX4.out.trans (hb5.mono HX4.out.size)))
            clear CAt hb5 g0 g1 p1
            go_wp2
            go_ret
            exact ⟨rfl, HB5.out⟩
          · obtain rfl : r = false := b_false HR.out (fun h => hna h.apart)
            have HB5 := hid (HB1.out _ hX4)
            clear hg4 hX4 hb24 hb4 HR hna
            go_wp2
            go_ret
            exact ⟨rfl, HB5.out⟩
    · obtain rfl : r = false := b_false HR.out (fun h => hlen (by rw [HMM.out, h.len, hK]))
      have q5 : ((M : Int) != (K : Int)) = true := by simp [bne]; omega
      clear HR hK
      go_wp2
      go_ret
      exact ⟨rfl, HB1.out _ HBW2.out⟩
  · have e1 := patN_none hk
    obtain rfl : r = false := b_false HR.out (fun h => hk h.kind)
    rw [e1] at p0
    clear HR
    go_wp2
    go_ret
    exact ⟨rfl, HB1.out _ HBW2.out⟩
end Go.Proofs.Ytckcbaegehfkoaa
namespace Go.Proofs.Ytckcbaegehfkoaa
open Go.RowKit Go.Lib

/-- Rows in order are told by what they are, if no two have one key. -/
theorem ways_one : ∀ {l m : List (List Int)}, l.Perm m → l.Pairwise (fun A B => lt3 (keyL B) (keyL A) = false) → m.Pairwise (fun A B => lt3 (keyL A) (keyL B) = true) → l = m
  | [], m, hp, _, _ => (List.Perm.nil_eq hp)
  | a :: l, [], hp, _, _ => by have := hp.length_eq; simp at this
  | a :: l, b :: m, hp, hl, hm => by
    rw [List.pairwise_cons] at hl hm
    have hab : a = b := by
      have h1 : a ∈ b :: m := hp.mem_iff.1 (by simp)
      have h2 : b ∈ a :: l := hp.mem_iff.2 (by simp)
      rcases List.mem_cons.1 h1 with h1 | h1
      · exact h1
      rcases List.mem_cons.1 h2 with h2 | h2
      · exact h2.symm
      have e1 := hl.1 b h2
      have e2 := hm.1 a h1
      rw [e1] at e2
      cases e2
    subst hab
    rw [ways_one (List.Perm.cons_inv hp) hl.2 hm.2]
/-- Where ways are a subdivision with all edges, nothing else is told. -/
theorem read_yes {m : Nat} {es : List (Int × Int)} {kd : Int} {T : List Int} {P : List (List Int)} {kd' : Int} {T' : List Int} {LL : List (List Int)} {ok : Bool} (hT : forkL m es = T) (hB : (betL m es T).Perm P) (hP : P.Pairwise (fun A B => lt3 (keyL A) (keyL B) = true)) (hS : SubL m es kd T P) (hC : Covers es P)
    (h : (ok = true ∧ ReadYes m es kd' T' LL) ∨ (ok = false ∧ kd' = 0 ∧ T' = [] ∧ LL = [] ∧ ReadNo m es)) : ok = true ∧ kd' = kd ∧ T' = T ∧ LL = P := by
  have one : ∀ LL, Ways m es T LL → LL = P := fun LL h => ways_one (h.1.trans hB) h.2 hP
  have hk : (if T.length = 4 then (1 : Int) else 2) = kd := by
    have h1 := hS.tl
    rcases hS.kind with rfl | rfl
    · rw [if_pos rfl] at h1; rw [if_pos h1]
    · rw [if_neg (by decide)] at h1; rw [if_neg (by omega)]
  rcases h with ⟨h1, h2⟩ | ⟨_, _, _, _, h2⟩
  · have ht : T' = T := h2.tops.trans hT
    subst ht
    have hl := one LL h2.ways
    subst hl
    refine ⟨h1, ?_, rfl, rfl⟩
    have a := h2.sub.tl
    have b := hS.tl
    rcases h2.sub.kind with rfl | rfl <;> rcases hS.kind with rfl | rfl
    · rfl
    · rw [if_pos rfl] at a; rw [if_neg (by decide)] at b; omega
    · rw [if_neg (by decide)] at a; rw [if_pos rfl] at b; omega
    · rfl
  · exfalso
    rcases h2 with h2 | ⟨h2, h3⟩ | ⟨LL', h2, h3⟩
    · exact h2 hS.right
    · have e : (m : Int).toNat = m := Int.toNat_natCast m
      rw [e, hT] at h2 h3
      have := hS.tl
      rcases hS.kind with rfl | rfl
      · rw [if_pos rfl] at this; exact h2 this
      · rw [if_neg (by decide)] at this; exact h3 this
    · have e : (m : Int).toNat = m := Int.toNat_natCast m
      rw [e, hT] at h2 h3
      rw [one LL' h2, hk] at h3
      exact h3 ⟨hS, hC⟩
def esY : List (Int × Int) := [(0, 1), (0, 2), (0, 3), (1, 2), (1, 4), (2, 3), (3, 4)]
def plY : List (List Int) := [[0, 1], [0, 2], [0, 3], [1, 2], [1, 4, 3], [2, 3]]
theorem esY_right : RightG (5 : Nat) esY := ⟨by decide, by decide, by decide, by decide, by unfold Rises esY; simp [ltE]⟩
theorem forkY : forkL 5 esY = [0, 1, 2, 3] := by decide
theorem betY : betL 5 esY [0, 1, 2, 3] = plY := by decide
theorem plY_sorted : plY.Pairwise (fun A B => lt3 (keyL A) (keyL B) = true) := by unfold plY; simp [lt3, keyL]
theorem pathY {p : List Int} (h1 : p ≠ []) (h2 : p.Nodup) (h3 : ∀ x ∈ p, 0 ≤ x ∧ x < ((5 : Nat) : Int)) (h4 : ∀ i (h : i + 1 < p.length), (p[i]'(by omega), p[i + 1]) ∈ esY ∨ (p[i + 1], p[i]'(by omega)) ∈ esY) : PathL ((5 : Nat) : Int) esY p := ⟨h1, h2, h3, h4⟩
theorem subY : SubL (5 : Nat) esY 1 [0, 1, 2, 3] plY := by
  have l2 : ∀ x y : Int, ((x, y) ∈ esY ∨ (y, x) ∈ esY) → (x ≠ y) → (0 ≤ x ∧ x < ((5 : Nat) : Int)) → (0 ≤ y ∧ y < ((5 : Nat) : Int)) → PathL ((5 : Nat) : Int) esY [x, y] := fun x y h hne hx hy => by
    refine pathY (by simp) (by simp [hne]) (fun z hz => by simp at hz; rcases hz with rfl | rfl; exact hx; exact hy) (fun i hi => ?_)
    have : i = 0 := by simp at hi; omega
    subst this
    exact h
  refine ⟨Or.inl rfl, esY_right, rfl, rfl, by decide, fun k hk => ?_, ?_⟩
  · have hk6 : k < 6 := hk
    rcases (by omega : k = 0 ∨ k = 1 ∨ k = 2 ∨ k = 3 ∨ k = 4 ∨ k = 5) with rfl | rfl | rfl | rfl | rfl | rfl
    · exact ⟨l2 0 1 (by decide) (by decide) (by decide) (by decide), by simp [plY], rfl, rfl⟩
    · exact ⟨l2 0 2 (by decide) (by decide) (by decide) (by decide), by simp [plY], rfl, rfl⟩
    · exact ⟨l2 0 3 (by decide) (by decide) (by decide) (by decide), by simp [plY], rfl, rfl⟩
    · exact ⟨l2 1 2 (by decide) (by decide) (by decide) (by decide), by simp [plY], rfl, rfl⟩
    · refine ⟨pathY (p := [1, 4, 3]) (by simp) (by decide) (by decide) (fun i hi => ?_), by simp [plY], rfl, rfl⟩
      have : i = 0 ∨ i = 1 := by simp at hi; omega
      rcases this with rfl | rfl
      · show ((1 : Int), (4 : Int)) ∈ esY ∨ _
        exact Or.inl (by decide)
      · show ((4 : Int), (3 : Int)) ∈ esY ∨ ((3 : Int), (4 : Int)) ∈ esY
        exact Or.inr (by decide)
    · exact ⟨l2 2 3 (by decide) (by decide) (by decide) (by decide), by simp [plY], rfl, rfl⟩
  · intro L hL k hk h1
    unfold plY at hL
    simp at hL
    rcases hL with rfl | rfl | rfl | rfl | rfl | rfl
    all_goals simp at hk
    all_goals first | omega | skip
    have : k = 1 := by omega
    subst this
    show plY.flatten.count 4 = 1
    decide
theorem coverY : Covers esY plY := by
  refine ⟨esY, esY_right.2.2.2.2, fun x => ⟨fun h => ?_, fun h => ?_⟩, rfl⟩
  · have : ∀ x ∈ esY, x ∈ plY.flatMap peL := by decide
    exact this x h
  · have : ∀ x ∈ plY.flatMap peL, x ∈ esY := by decide
    exact this x h
/-- What is read of the graph of the small case. -/
theorem readY {kd : Int} {T : List Int} {LL : List (List Int)} {ok : Bool} (h : (ok = true ∧ ReadYes 5 esY kd T LL) ∨ (ok = false ∧ kd = 0 ∧ T = [] ∧ LL = [] ∧ ReadNo (5 : Nat) esY)) : ok = true ∧ kd = 1 ∧ T = [0, 1, 2, 3] ∧ LL = plY :=
  read_yes forkY (by rw [betY]) plY_sorted subY coverY h
theorem readN {kd : Int} {T : List Int} {LL : List (List Int)} {ok : Bool} (h : (ok = true ∧ ReadYes 3 [] kd T LL) ∨ (ok = false ∧ kd = 0 ∧ T = [] ∧ LL = [] ∧ ReadNo (3 : Nat) [])) : ok = false ∧ kd = 0 ∧ T = [] ∧ LL = [] := by
  rcases h with ⟨_, h⟩ | ⟨h1, h2, h3, h4, _⟩
  · exfalso
    have h1 := h.tops
    have h2 : forkL 3 [] = [] := by decide
    rw [h2] at h1
    have h3 := h.sub.tl
    rw [h1] at h3
    rcases h.sub.kind with rfl | rfl <;> simp at h3
  · exact ⟨h1, h2, h3, h4⟩
theorem setsY : subSets 1 [0, 1, 2, 3] plY = [[0], [1, 4], [2], [3]] := by decide
end Go.Proofs.Ytckcbaegehfkoaa
