/-
  The document's Contract (layer 6).
-/
import Derived.Test.YtagigeieoijciaaB16
import Derived.Test.YtagigeieoijciaaB07
import Derived.Test.YtagigeieoijciaaB08
import Derived.Test.YtagigeieoijciaaB13
namespace Go.Proofs.Ytagigeieoijciaa
open Go.RowKit Go.Lib

/-- A row of edges that grows, beside a row of numbers that is read. -/
def TwoRows (w : World) (base : Nat) (v : Value) (es : List (Int × Int)) (g off : Nat) (L : List Int) : Prop :=
  w.ownsRow base 40 2 v es.length (cellsE es) ∧ (0 < L.length → g < w.heap.size ∧ some g ≠ v.ownBlock ∧ ∀ k (hk : k < L.length), w.cell? ⟨g, off + k, none⟩ = some (.int .i64 L[k]))

set_option maxHeartbeats 8000000 in
set_option maxRecDepth 100000 in
theorem rcon_any (n : Int) (a : Option Addr) (cap : Nat) (es : List (Int × Int)) (x y : Int) (b : Bool) (w : World) (hN : es.length ≤ 2000) (hroom : RightG n es → es.length + n.toNat ≤ 4000) (hS : Slw a cap es.length) (hE : EAt w a es) (hb : b = true ↔ RightG n es) :
    Calls Try.prog 18 #[.agg #[.int .i64 n, .slice a es.length cap], .int .i64 x, .int .i64 y] w fun e w' => ∃ u, e = .returned u ∧ SubTold (ConS n es x y) w w' u := by
  by_cases hall : ¬ (RightG n es ∧ ((0 ≤ x ∧ x < n) ∧ (0 ≤ y ∧ y < n)) ∧ Adj es x y)
  · exact rcon_codes n a cap es x y b w hN hE hb hall
  obtain ⟨hRG, hin, hadj⟩ := Classical.not_not.1 hall
  clear hall
  obtain rfl : b = true := hb.2 hRG
  obtain ⟨m, rfl⟩ : ∃ m : Nat, n = m := ⟨n.toNat, by have := hRG.1; omega⟩
  obtain ⟨X, rfl⟩ : ∃ X : Nat, x = X := ⟨x.toNat, by omega⟩
  obtain ⟨Y, rfl⟩ : ∃ Y : Nat, y = Y := ⟨y.toNat, by omega⟩
  have hXm : X < m := by omega
  have hYm : Y < m := by omega
  have hm : m ≤ 1000 := by have := hRG.2.1; omega
  have hroom' : es.length + m ≤ 4000 := by have := hroom hRG; simpa using this
  obtain ⟨lo, hlo⟩ := ex_eq (min X Y)
  obtain ⟨hi, hhi⟩ := ex_eq (max X Y)
  have kmin : min (X : Int) (Y : Int) = (lo : Int) := by omega
  have kmax : max (X : Int) (Y : Int) = (hi : Int) := by omega
  have hhim : hi < m := by omega
  obtain ⟨N, hNe⟩ := ex_eq es.length
  obtain ⟨L, hLe⟩ := ex_eq (nbL hi es)
  obtain ⟨M, hMe⟩ := ex_eq L.length
  have hMl : M ≤ 2000 := by rw [hMe, hLe]; exact Nat.le_trans (nbL_len _ _) hN
  obtain ⟨W, hW, hsW, hO0, hO1, hbW⟩ := new_two w (.cells #[.int .i64 m, .slice a N cap] 27) (.cells #[.int .i64 0, .slice none 0 0] 27)
  have HGC : Hid (∀ X, Below W.heap.size W X → GC X w.heap.size m a N cap es ∧ Below w.heap.size w X ∧ X.heap[w.heap.size + 1]? = some (.cells #[.int .i64 0, .slice none 0 0] 27 (0, 0))) := fun X hX => by
    have o := (hX.block _ (by omega)).trans hO0
    have o1 := (hX.block (w.heap.size + 1) (by omega)).trans hO1
    have hbx : Below w.heap.size w X := hbW.trans (hX.mono (by omega))
    exact ⟨⟨cell_of_heap o 0, cell_of_heap o 1, hE.below hbx⟩, hbx, o1⟩
  have CR : Hid (∀ X, Below W.heap.size W X → Calls Try.prog 19 #[.agg #[.int .i64 m, .slice a N cap]] X fun e w' => e = .returned (.bool true) ∧ Below X.heap.size X w') := fun X hX => by
    rw [hNe]; exact rright_any m a cap es true X (by omega) (HGC.out X hX).1.at_ hb
  have CHH : Hid (∀ X', GC X' w.heap.size m a N cap es → Calls Try.prog 20 #[.agg #[.int .i64 m, .slice a N cap], .int .i64 X, .int .i64 Y] X' fun e w' => e = .returned (.bool true) ∧ Below X'.heap.size X' w') := fun X' hX => by
    rw [hNe]; exact rhas_any m a cap es X Y true true X' (by omega) hX.at_ hb ⟨fun _ => ⟨hRG, hadj⟩, fun _ => rfl⟩
  have CN : Hid (∀ X', GC X' w.heap.size m a N cap es → Calls Try.prog 37 #[.agg #[.int .i64 m, .slice a N cap], .int .i64 hi] X' fun e w' => ∃ v, e = .returned v ∧ w'.ownsRow X'.heap.size 3 1 v L.length (L.map (Value.int .i64)) ∧ Below X'.heap.size X' w') := fun X' hX => by
    rw [hNe]; exact rnear_own m a cap es hi true L X' (by omega) hX.at_ hb (by rw [if_pos rfl, hLe])
  obtain ⟨P, hP⟩ := ex_eq (fun i j : Nat => mAdjB es (lo : Int) (hi : Int) i j)
  have hEq : allP P m = allP (fun i j => mAdjB es (min X Y : Nat) (max X Y : Nat) i j) m := by rw [hP, hlo, hhi]
  have CD : Hid (∀ (a' : Option Addr) (c' : Nat) (E : List (Int × Int)) X', E = allP P m → EAt X' a' E → Calls Try.prog 16 #[.agg #[.int .i64 m, .slice a' E.length c'], .int .i64 hi] X' fun e w' => ∃ u, e = .returned u ∧ SubTold (ConS m es X Y) X' w' u) := fun a' c' E X' he hea => by
    have hR2 := merged_right (lo := min X Y) (hi := max X Y) hRG hroom'
    rw [← hEq, ← he] at hR2
    refine (rdel_any m a' c' E hi true X' (by have := hR2.2.2.1; omega) hea ⟨fun _ => hR2, fun _ => rfl⟩).mono ?_
    rintro e w' ⟨u, rfl, er, N', E', a2, c2, h1, h2, h3⟩
    rw [he, hEq, hhi] at h2
    exact ⟨u, rfl, er, N', E', a2, c2, h1, con_of_del hRG hXm hYm hadj hroom' h2, h3⟩
  have HMEET : Hid (∀ p q : Nat, Meets (allTo es lo L M) p q ↔ P p q = true) := fun p q => by
    rw [hP, hMe, hLe]
    exact (meets_all hRG).trans mAdjB_iff.symm
  have HPL : Hid (Slw a cap N) := by rw [hNe]; exact hS
  have HRG := hid hRG
  have HNE := hid hNe
  have HME := hid hMe
  have HW := hid hW
  have hN2 : N ≤ 2000 := by omega
  rw [← hNe]
  clear hP hEq hNe hMe hLe hW hO0 hO1 hbW hE hb hRG hadj hin hN hroom hroom' hS hlo hhi hXm hYm
  obtain ⟨i0, hj, hy0, hy1, hy2⟩ := info_parts Try.info40
  have e1 : decide ((X : Int) < 0) = false := decide_eq_false (by omega)
  have e2 : decide ((Y : Int) < 0) = false := decide_eq_false (by omega)
  have e3 : decide ((m : Int) ≤ (X : Int)) = false := decide_eq_false (by omega)
  have e4 : decide ((m : Int) ≤ (Y : Int)) = false := decide_eq_false (by omega)
  have e5 : decide ((X : Int) ≥ (m : Int)) = false := decide_eq_false (by omega)
  have e6 : decide ((Y : Int) ≥ (m : Int)) = false := decide_eq_false (by omega)
  have e7 : ¬ (X : Int) < 0 := by omega
  have e8 : ¬ (Y : Int) < 0 := by omega
  have e9 : ¬ (m : Int) ≤ (X : Int) := by omega
  have e10 : ¬ (m : Int) ≤ (Y : Int) := by omega
  go_enter Try.func18, Try.ntmps18
  go_wp2_with fail
  rw [← HW.out]
  refine (CR.out W (Below.refl _ _)).mono ?_
  rintro e w1 ⟨rfl, hb1⟩
  obtain ⟨hg1, hbw1, ho1⟩ := HGC.out w1 hb1
  have HB1 := hid hb1
  obtain ⟨g0, g1⟩ := hg1.cells
  have CH := hid (CHH.out w1 hg1)
  clear CR hb1 hbw1 HW hg1 ho1 CHH
  go_wp2_with fail
  refine CH.out.mono ?_
  rintro e w2 ⟨rfl, hb2⟩
  have hbW2 : Below W.heap.size W w2 := HB1.out.trans (hb2.mono HB1.out.size)
  obtain ⟨hg2, hbw2, ho2⟩ := HGC.out w2 hbW2
  have HB2 := hid hbW2
  -- all edges
  obtain ⟨E0, hE0⟩ := ex_eq (Obj.cells #[] 40 (0, 0))
  have HOE : Hid ((w2.alloc E0).ownsRow w2.heap.size 40 2 (.slice (some ⟨w2.heap.size, 0, none⟩) 0 0) 0 []) := own_empty E0 hE0
  have hBE : Below w2.heap.size w2 (w2.alloc E0) := below_one _ _
  have HGE := hid (hg2.on hBE)
  obtain ⟨f0, f1⟩ := HGE.out.cells
  have HNIL : Hid (a = none → N = 0 ∧ cap = 0) := fun ha => by have h1 := HPL.out.2 ha; have h2 := HPL.out.1; exact ⟨by omega, h1⟩
  have HCL : Hid ((cellsE es).length = N * 2) := by show (cellsE es).length = N * 2; rw [cellsE_len, HNE.out]
  have HNW := hid HGE.out.at_.newsO
  clear hb2 hbW2 hbw2 ho2 hg2 CH g0 g1 HB1 HPL
  subst hE0
  go_wp2_with (at_builtin; refine wpList_append_any _ rfl _ _ 22 rfl w2.heap.size 40 i0 _ 2 16 Try.underlying22 hj hy0 hy1 hy2 rfl (by decide) _ _ _ rfl HOE.out a N cap (cellsE es) rfl HNIL.out HCL.out HNW.out ?c2 ?c3 ?c4 ?c5 ?_)
  case c2 => exact cellsE_one es
  case c3 => unfold maxLen; omega
  case c4 => omega
  case c5 => simp
  intro v3 w3 hown3 hgrow _
  have hb3 : Below w2.heap.size w2 w3 := Below.grown hBE hgrow (by simp) (fun j hj => (HOE.out.lt j hj).1)
  have hbW3 : Below W.heap.size W w3 := HB2.out.trans (hb3.mono HB2.out.size)
  obtain ⟨hg3, _, _⟩ := HGC.out w3 hbW3
  obtain ⟨g0, g1⟩ := hg3.cells
  have HOW3 : Hid (w3.ownsRow w2.heap.size 40 2 v3 es.length (cellsE es)) := by
    show World.ownsRow _ _ _ _ _ _ _
    rw [← HNE.out]; simpa using hown3
  have HB3 := hid hbW3
  have HB23 := hid hb3
  have C3 := hid (CN.out w3 hg3)
  clear hgrow hown3 hb3 hbW3 hg3 HGE f0 f1 hBE HNW HOE HCL HNIL CN
  go_wp2_with fail
  refine C3.out.mono ?_
  rintro e w4 ⟨v4, rfl, hown4, hb4⟩
  have hrow4 : ∃ aN cN g off, v4 = .slice aN M cN ∧ (0 < M → aN = some ⟨g, off, none⟩) ∧ TwoRows w4 w2.heap.size v3 (allTo es lo L 0) g off L := by
    have hk : w4.ownsRow w2.heap.size 40 2 v3 (allTo es lo L 0).length (cellsE (allTo es lo L 0)) := by
      rw [allTo_zero]; exact own_below HOW3.out hb4
    by_cases h0 : 0 < L.length
    · obtain ⟨g, cN, hv, hbg, hgl, hc, hcs⟩ := own_row hown4 h0
      refine ⟨_, cN, g, 0, by rw [hv, HME.out], fun _ => rfl, hk, fun _ => ⟨hgl, fun e => ?_, fun k hk => ?_⟩⟩
      · have := (HOW3.out.lt g e.symm).2
        omega
      · rw [Nat.zero_add]; exact hcs k _ (by rw [List.getElem?_map, List.getElem?_eq_getElem hk]; rfl)
    · obtain ⟨aN, cN, hv, _⟩ := iat_own hown4
      exact ⟨aN, cN, 0, 0, by rw [hv, HME.out], fun h => absurd h (by have := HME.out; omega), hk, fun h => absurd h h0⟩
  obtain ⟨aN, cN, gN, oN, rfl, haN, htwo⟩ := hrow4
  have HTWO := hid htwo
  have HAN := hid haN
  have HB4 : Hid (Below w2.heap.size w2 w4) := HB23.out.trans (hb4.mono HB23.out.size)
  clear hb4 hown4 htwo haN C3 g0 g1 HB3 HB23 HOW3
  go_wp2
  go_loopg [10, 12] M (fun Gh v i wz => ∃ k : Nat, k ≤ M ∧ M - k ≤ Gh ∧ i = .int .i64 k ∧ Hid (TwoRows wz w2.heap.size v (allTo es lo L k) gN oN L) ∧ Hid (Below w2.heap.size w2 wz))
  case atStart => exact ⟨0, Nat.zero_le _, by omega, rfl, HTWO, HB4⟩
  case round =>
    obtain ⟨k, hk, hGh, rfl, htw, hbr⟩ := hrel
    by_cases hlt : k < M
    · have hkr : k < L.length := by rw [← HME.out]; exact hlt
      obtain ⟨hgl, hne, hcs⟩ := htw.out.2 (by omega)
      have haN := HAN.out (by omega)
      subst haN
      have d0 := hcs k hkr
      obtain ⟨z, hz⟩ := ex_eq L[k]
      rw [← hz] at d0
      have q1 : (k : Int) < (M : Int) := by omega
      have HNX : Hid (allTo es lo L (k + 1) = allTo es lo L k ++ (if z = lo then [] else [((lo : Int), z)])) := by
        show _ = _
        rw [allTo_next hkr, hz]
      have hown := htw.out.1
      obtain ⟨A, hA⟩ := ex_eq (allTo es lo L k)
      have hAl := allTo_len es lo L k
      rw [← hA] at hown HNX hAl
      have HAl : Hid (A.length ≤ 5000) := by
        show _ ≤ _
        have h1 := HNE.out
        have h2 := HME.out
        omega
      have HCS := hid hcs
      have HOWN := hid hown
      clear hz hA hcs hown htw hAl hkr
      by_cases h1 : z = lo
      · subst h1
        have b1 : ((lo : Int) == (lo : Int)) = true := by simp
        have HT2 : Hid (TwoRows wr w2.heap.size u10 (allTo es lo L (k + 1)) gN oN L) := by
          show TwoRows _ _ _ _ _ _ _
          rw [HNX.out, if_pos rfl, List.append_nil]
          exact ⟨HOWN.out, fun _ => ⟨hgl, hne, HCS.out⟩⟩
        clear HNX HCS HOWN hne
        go_wp2
        go_roundg (M - (k + 1))
        case measure => omega
        case rel => exact ⟨k + 1, by omega, Nat.le_refl _, by go_num, HT2, hbr⟩
      · have b1 : (z == (lo : Int)) = false := beq_eq_false_iff_ne.2 h1
        have b2 : (z != (lo : Int)) = true := by simp [h1]
        obtain ⟨aS, cs, hsv, _, _⟩ := eat_own HOWN.out
        subst hsv
        obtain ⟨K, hK⟩ := ex_eq A.length
        rw [← hK]
        have HK := hid hK
        have HOW : Hid ((wr.alloc (.cells #[.int .i64 lo, .int .i64 z] 40)).ownsRow w2.heap.size 40 2 (.slice aS K cs) K (cellsE A)) := by
          show World.ownsRow _ _ _ _ _ _ _
          rw [hK]; exact HOWN.out.alloc _
        have HNW : Hid (∀ p', some (⟨wr.heap.size, 0, none⟩ : Addr) = some p' → ∀ i v, [Value.int .i64 (lo : Int), .int .i64 z][i]? = some v → (wr.alloc (.cells #[.int .i64 lo, .int .i64 z] 40)).cell? (p'.add i) = some v) := fun p' hp' => by cases hp'; exact cells_two (heap_alloc_new wr _)
        have HON : Hid (∀ v ∈ [Value.int .i64 (lo : Int), .int .i64 z], v.oneCell' = true) := fun v hv => by simp at hv; rcases hv with rfl | rfl <;> rfl
        have HKl : K ≤ 5000 := by have := HAl.out; omega
        have H63 : Hid (K + 1 ≤ maxLen) := by show K + 1 ≤ maxLen; unfold maxLen; omega
        have HBS : Hid (w2.heap.size ≤ (wr.alloc (.cells #[.int .i64 lo, .int .i64 z] 40)).heap.size) := by show w2.heap.size ≤ _; have := hbr.out.size; simp; omega
        have HPUT : Hid (∀ v4 w4, w4.ownsRow w2.heap.size 40 2 v4 (K + 1) (cellsE A ++ [.int .i64 (lo : Int), .int .i64 z]) → (wr.alloc (.cells #[.int .i64 lo, .int .i64 z] 40)).grownBy w4 (Value.slice aS K cs).ownBlock → (v4.ownBlock = (Value.slice aS K cs).ownBlock ∨ v4.ownBlock = some (wr.alloc (.cells #[.int .i64 lo, .int .i64 z] 40)).heap.size) → TwoRows w4 w2.heap.size v4 (allTo es lo L (k + 1)) gN oN L ∧ Below w2.heap.size w2 w4) := fun v4 w4 h1' h2 h3 => by
          have hne' : some gN ≠ (Value.slice aS K cs).ownBlock := by rw [hK]; exact hne
          have hbn : Below w2.heap.size w2 (wr.alloc (.cells #[.int .i64 lo, .int .i64 z] 40)) := hbr.out.alloc hbr.out.size _
          refine ⟨⟨?_, fun _ => ⟨?_, ?_, fun j hj => ?_⟩⟩, Below.grown hbn h2 HBS.out (fun j hj => by rw [hK] at hj; exact (HOWN.out.lt j hj).1)⟩
          · rw [HNX.out, if_neg h1, List.length_append, cellsE_append, ← hK]
            exact h1'
          · have := h2.size
            simp at this
            omega
          · rcases h3 with h3 | h3
            · rw [h3]; exact hne'
            · rw [h3]
              intro e
              simp at e
              omega
          · exact h2.cell (cell_alloc_old (HCS.out j hj) _) hne'
        clear HNX HCS HOWN hne hK hbr
        go_wp2_with (at_builtin; refine wpList_append_any _ rfl _ _ 22 rfl w2.heap.size 40 i0 _ 2 16 Try.underlying22 hj hy0 hy1 hy2 rfl (by decide) _ _ _ rfl HOW.out (some ⟨wr.heap.size, 0, none⟩) 1 1 [.int .i64 lo, .int .i64 z] rfl (fun h => by cases h) rfl HNW.out HON.out H63.out (by omega) HBS.out ?_)
        intro v4 w5 hown5 hgrow5 hwh
        obtain ⟨ht5, hb5⟩ := HPUT.out v4 w5 hown5 hgrow5 (by simpa using hwh)
        have HT5 := hid ht5
        have HB5 := hid hb5
        clear hown5 hgrow5 hwh HPUT ht5 hb5 HOW HNW HON H63 HBS
        go_wp2
        go_roundg (M - (k + 1))
        case measure => omega
        case rel => exact ⟨k + 1, by omega, Nat.le_refl _, by go_num, HT5, HB5⟩
    · obtain rfl : k = M := by omega
      obtain ⟨A, hA⟩ := ex_eq (allTo es lo L k)
      have hown := htw.out.1
      rw [← hA] at hown HMEET
      obtain ⟨aA, cA, rfl, hslA, heaA⟩ := eat_own hown
      obtain ⟨KA, hKA⟩ := ex_eq A.length
      rw [← hKA]
      have HKA := hid hKA
      have hbW5 : Below W.heap.size W wr := HB2.out.trans (hbr.out.mono HB2.out.size)
      obtain ⟨hg5, _, _⟩ := HGC.out wr hbW5
      obtain ⟨g0, g1⟩ := hg5.cells
      obtain ⟨W3, hW3⟩ := ex_eq (wr.alloc (.cells #[.int .i64 m, .slice none 0 0] 27))
      obtain ⟨B, hB⟩ := ex_eq wr.heap.size
      have hbW3 : Below B wr W3 := by rw [hW3, hB]; exact below_one _ _
      have HA0 : Hid (EAcc W3 B m (.slice none 0 0) (prsTo P m 0 0)) := by
        refine ⟨by rw [hW3, hB]; exact heap_alloc_new _ _, ?_⟩
        have : prsTo P m 0 0 = [] := by unfold prsTo; rw [rowP_none P (by omega)]; rfl
        rw [this]
        exact World.ownsRow_nil _ _ _ _
      have z0 : (wr.alloc (.cells #[.int .i64 0, .slice none 0 0] 27)).heap.size = B + 1 := by rw [hB]; simp
      clear z0
      have HW3 := hid hW3
      have HB5 := hid hbW5
      have HEA := hid heaA
      have HBe := hid hB
      have hb33 : Below wr.heap.size wr W3 := by rw [← hB]; exact hbW3
      have HGCX : Hid (∀ X', Below B W3 X' → GC X' w.heap.size m a N cap es ∧ Below w.heap.size w X' ∧ X'.heap[w.heap.size + 1]? = some (.cells #[.int .i64 0, .slice none 0 0] 27 (0, 0)) ∧ EAt X' aA A) := fun X' hX3 => by
        have hX' := hbW3.trans (hX3.mono (Nat.le_refl _))
        rw [hB] at hX'
        obtain ⟨h1, h2, h3⟩ := HGC.out X' (hbW5.trans (hX'.mono hbW5.size))
        exact ⟨h1, h2, h3, heaA.below hX'⟩
      have HWB : Hid (w.heap.size + 1 < B) := by
        show _ < _
        rw [hB]
        have := hbW5.size
        omega
      have hkaL : KA ≤ 5000 := by
        rw [hKA, hA]
        have h0 := allTo_len es lo L k
        have h1 := HNE.out
        have h2 := HME.out
        omega
      have hBE0 := Below.refl B W3
      have HBE0 := hid hBE0
      clear hW3 hbW5 hg5 hown hA hslA heaA hKA htw hbr hB hb33 HTWO HAN HB4 HB2 HGC HME HNE HB5 HEA hbW3 hBE0
      go_wp2
      rw [← HW3.out, ← HBe.out]
      clear HW3 HBe g0 g1
      go_loopg [14] m (fun Gh i wz => ∃ (p : Nat) (sv : Value), p ≤ m ∧ m - p ≤ Gh ∧ i = .int .i64 p ∧ Hid (EAcc wz B m sv (prsTo P m p 0)) ∧ Hid (Below B W3 wz))
      case atStart => exact ⟨0, _, Nat.zero_le _, by omega, rfl, HA0, HBE0⟩
      case round =>
        obtain ⟨p, sv, hp, hGp, rfl, hacc, hbp⟩ := hrel
        obtain ⟨hgp, _, _, _⟩ := HGCX.out wr hbp.out
        obtain ⟨g0, g1⟩ := hgp.cells
        by_cases hlp : p < m
        · have q1 : (p : Int) < (m : Int) := by omega
          have HA1 : Hid (∃ sv, EAcc wr B m sv (prsTo P m p (p + 1))) := by
            have e : prsTo P m p (p + 1) = prsTo P m p 0 := by unfold prsTo; rw [rowP_none P (show p + 1 ≤ p + 1 by omega), rowP_none P (show 0 ≤ p + 1 by omega)]
            rw [Hid, e]; exact ⟨sv, hacc.out⟩
          clear hacc hgp
          go_wp2
          clear g0 g1
          go_loopg [15] m (fun Gj i wz => ∃ (q : Nat), p < q ∧ q ≤ m ∧ m - q ≤ Gj ∧ i = .int .i64 q ∧ Hid (∃ sv, EAcc wz B m sv (prsTo P m p q)) ∧ Hid (Below B W3 wz))
          case atStart => exact ⟨p + 1, by omega, by omega, by omega, by go_num, HA1, hbp⟩
          case round =>
            obtain ⟨q, hpq, hq, hGq, rfl, haq, hbq⟩ := hrel
            obtain ⟨hgq, _, _, _⟩ := HGCX.out wr hbq.out
            obtain ⟨g0, g1⟩ := hgq.cells
            clear hgq
            by_cases hlq : q < m
            · have q2 : (q : Int) < (m : Int) := by omega
              go_wp2
              clear g0 g1
              go_loopg [16] KA (fun Gk i wz => ∃ (t : Nat), t ≤ KA ∧ KA - t ≤ Gk ∧ i = .int .i64 t ∧ Hid (¬ Meets (A.take t) p q) ∧ Hid (∃ sv, EAcc wz B m sv (prsTo P m p q)) ∧ Hid (Below B W3 wz))
              case atStart => exact ⟨0, Nat.zero_le _, by omega, rfl, (fun h => by obtain ⟨e, he, _⟩ := h; simp at he), haq, hbq⟩
              case round =>
                obtain ⟨t, ht, hGt, rfl, hno, hat, hbt⟩ := hrel
                by_cases hltt : t < KA
                · have htr : t < A.length := by rw [← HKA.out]; exact hltt
                  obtain ⟨_, _, _, hea⟩ := HGCX.out wr hbt.out
                  obtain ⟨gA, oA, rfl, hgA, hcs⟩ := hea.at htr
                  obtain ⟨u1, hu1⟩ := ex_eq A[t].1
                  obtain ⟨u2, hu2⟩ := ex_eq A[t].2
                  have d := hcs wr (Below.refl _ _) t htr
                  rw [← hu1, ← hu2] at d
                  obtain ⟨d0, d1⟩ := d
                  have HMT : Hid (Meets (A.take (t + 1)) p q ↔ Meets (A.take t) p q ∨ ((u1 = p ∧ u2 = q) ∨ (u1 = q ∧ u2 = p))) := by
                    show _ ↔ _
                    rw [hu1, hu2]; exact Meets.next htr
                  have q3 : (t : Int) < (KA : Int) := by omega
                  have q4 : t < KA := hltt
                  have HTA : Hid (Meets (A.take (t + 1)) p q → Meets A p q) := Meets.sub
                  clear hea hcs hu1 hu2 htr
                  go_upto_region 26 with fail
                  go_cut [136] from 97 to 144 (fun c wx => c = .bool (decide ((u1 = p ∧ u2 = q) ∨ (u1 = q ∧ u2 = p))) ∧ wx = wr)
                  case first =>
                    by_cases c1 : u1 = p
                    · have b1 : (u1 == (p : Int)) = true := beq_iff_eq.2 c1
                      by_cases c2 : u2 = q
                      · have b2 : (u2 == (q : Int)) = true := beq_iff_eq.2 c2
                        have hr : Hid (decide ((u1 = p ∧ u2 = q) ∨ (u1 = q ∧ u2 = p)) = true) := decide_eq_true (Or.inl ⟨c1, c2⟩)
                        go_wp2_with fail
                        go_meet
                        exact ⟨by rw [hr.out], rfl⟩
                      · have b2 : (u2 == (q : Int)) = false := beq_eq_false_iff_ne.2 c2
                        have c3 : u1 ≠ q := by omega
                        have b3 : (u1 == (q : Int)) = false := beq_eq_false_iff_ne.2 c3
                        have hr : Hid (decide ((u1 = p ∧ u2 = q) ∨ (u1 = q ∧ u2 = p)) = false) := decide_eq_false (by omega)
                        go_wp2_with fail
                        go_meet
                        exact ⟨by rw [hr.out], rfl⟩
                    · have b1 : (u1 == (p : Int)) = false := beq_eq_false_iff_ne.2 c1
                      by_cases c3 : u1 = q
                      · have b3 : (u1 == (q : Int)) = true := beq_iff_eq.2 c3
                        by_cases c4 : u2 = p
                        · have b4 : (u2 == (p : Int)) = true := beq_iff_eq.2 c4
                          have hr : Hid (decide ((u1 = p ∧ u2 = q) ∨ (u1 = q ∧ u2 = p)) = true) := decide_eq_true (Or.inr ⟨c3, c4⟩)
                          go_wp2_with fail
                          go_meet
                          exact ⟨by rw [hr.out], rfl⟩
                        · have b4 : (u2 == (p : Int)) = false := beq_eq_false_iff_ne.2 c4
                          have hr : Hid (decide ((u1 = p ∧ u2 = q) ∨ (u1 = q ∧ u2 = p)) = false) := decide_eq_false (by omega)
                          go_wp2_with fail
                          go_meet
                          exact ⟨by rw [hr.out], rfl⟩
                      · have b3 : (u1 == (q : Int)) = false := beq_eq_false_iff_ne.2 c3
                        have hr : Hid (decide ((u1 = p ∧ u2 = q) ∨ (u1 = q ∧ u2 = p)) = false) := decide_eq_false (by omega)
                        go_wp2_with fail
                        go_meet
                        exact ⟨by rw [hr.out], rfl⟩
                  case rest =>
                    obtain ⟨rfl, hwc⟩ := hcut
                    rw [hwc]
                    clear hwc d0 d1
                    obtain ⟨sv, hacc⟩ := hat.out
                    by_cases hh : (u1 = p ∧ u2 = q) ∨ (u1 = q ∧ u2 = p)
                    · have hr : decide ((u1 = p ∧ u2 = q) ∨ (u1 = q ∧ u2 = p)) = true := decide_eq_true hh
                      rw [hr]
                      have hPt : P p q = true := (HMEET.out p q).1 (HTA.out (HMT.out.2 (Or.inr hh)))
                      have HNX : Hid (prsTo P m p (q + 1) = prsTo P m p q ++ [((p : Int), (q : Int))]) := by
                        show _ = _
                        rw [prsTo_next, if_pos (by rw [Bool.and_eq_true]; exact ⟨decide_eq_true hpq, hPt⟩)]
                      have hlen := prsTo_len P m p q
                      have hle2 : p * m + q ≤ 1001000 := by
                        have : p * m ≤ 1000 * 1000 := Nat.mul_le_mul (by omega) hm
                        omega
                      obtain ⟨E, hEe⟩ := ex_eq (prsTo P m p q)
                      rw [← hEe] at HNX hlen hacc
                      obtain ⟨aS, cs, hsv, _, _⟩ := eat_own hacc.own
                      subst hsv
                      obtain ⟨K, hK⟩ := ex_eq E.length
                      have hKl : K ≤ 1001000 := by omega
                      have b1 : wr.cell? ⟨B, 1, none⟩ = some (.slice aS K cs) := by rw [hK]; exact cell_of_heap hacc.box 1
                      have HOW : Hid ((wr.alloc (.cells #[.int .i64 p, .int .i64 q] 40)).ownsRow (B + 1) 40 2 (.slice aS K cs) K (cellsE E)) := by
                        show World.ownsRow _ _ _ _ _ _ _
                        rw [hK]; exact hacc.own.alloc _
                      have HNW : Hid (∀ p', some (⟨wr.heap.size, 0, none⟩ : Addr) = some p' → ∀ i v, [Value.int .i64 (p : Int), .int .i64 (q : Int)][i]? = some v → (wr.alloc (.cells #[.int .i64 p, .int .i64 q] 40)).cell? (p'.add i) = some v) := fun p' hp' => by cases hp'; exact cells_two (heap_alloc_new wr _)
                      have HON : Hid (∀ v ∈ [Value.int .i64 (p : Int), .int .i64 (q : Int)], v.oneCell' = true) := fun v hv => by simp at hv; rcases hv with rfl | rfl <;> rfl
                      have H63 : Hid (K + 1 ≤ maxLen) := by show K + 1 ≤ maxLen; unfold maxLen; omega
                      have hB7 : B < wr.heap.size := (Array.getElem?_eq_some_iff.1 hacc.box).1
                      have HBS : Hid (B + 1 ≤ (wr.alloc (.cells #[.int .i64 p, .int .i64 q] 40)).heap.size) := by show B + 1 ≤ _; simp; omega
                      have HPUT : Hid (∀ v4 w4, w4.ownsRow (B + 1) 40 2 v4 (K + 1) (cellsE E ++ [.int .i64 (p : Int), .int .i64 (q : Int)]) → (wr.alloc (.cells #[.int .i64 p, .int .i64 q] 40)).grownBy w4 (Value.slice aS K cs).ownBlock → EAcc (w4.setCell ⟨B, 1, none⟩ v4) B m v4 (prsTo P m p (q + 1)) ∧ w4.cell? ⟨B, 1, none⟩ = some (.slice aS K cs) ∧ w4.frozen? ⟨B, 1, none⟩ = false ∧ Below B W3 (w4.setCell ⟨B, 1, none⟩ v4)) := fun v4 w4 h1 h2 => by
                        rw [hK] at h1 h2
                        obtain ⟨e1, e2, e3⟩ := hacc.put h2 h1
                        rw [HNX.out]
                        refine ⟨e1, by rw [hK]; exact e2, e3, ?_⟩
                        refine (Below.grown (hbt.out.alloc (by omega) _) h2 (by simp; omega) (fun j hj => ?_)).setCell (p := ⟨B, 1, none⟩) (Nat.le_refl _) _
                        have := (hacc.own.lt j hj).1
                        omega
                      clear hr hh hPt hlen hle2 hEe hacc hat hno hbt HMT HTA HNX hB7 hK haq hbq
                      go_wp2_with (at_builtin; refine wpList_append_any _ rfl _ _ 22 rfl (B + 1) 40 i0 _ 2 16 Try.underlying22 hj hy0 hy1 hy2 rfl (by decide) _ _ _ rfl HOW.out (some ⟨wr.heap.size, 0, none⟩) 1 1 [.int .i64 p, .int .i64 q] rfl (fun h => by cases h) rfl HNW.out HON.out H63.out (by omega) HBS.out ?_; intro v4 w4 hown4 hgrow4 _; obtain ⟨e1, e2, e3, e4⟩ := HPUT.out v4 w4 hown4 hgrow4; obtain ⟨g', cap', rfl⟩ := ownsRow_succ hown4; have HE1 := hid e1; have HE4 := hid e4; clear hown4 hgrow4 e1 e4)
                      try go_wp2
                      go_roundg (m - (q + 1))
                      case measure => omega
                      case rel => exact ⟨q + 1, by omega, by omega, Nat.le_refl _, by go_num, ⟨_, HE1.out⟩, HE4⟩
                    · have hr : decide ((u1 = p ∧ u2 = q) ∨ (u1 = q ∧ u2 = p)) = false := decide_eq_false hh
                      rw [hr]
                      have HN2 : Hid (¬ Meets (A.take (t + 1)) p q) := fun h => by
                        rcases HMT.out.1 h with h | h
                        · exact hno.out h
                        · exact hh h
                      have HAT : Hid (∃ sv, EAcc wr B m sv (prsTo P m p q)) := hat
                      clear hr hh hno hacc hat HMT HTA
                      go_wp2
                      go_roundg (KA - (t + 1))
                      case measure => omega
                      case rel => exact ⟨t + 1, by omega, Nat.le_refl _, by go_num, HN2, HAT, hbt⟩
                · obtain rfl : t = KA := by omega
                  have hPf : P p q = false := by
                    have h1 := hno.out
                    rw [HKA.out, List.take_length] at h1
                    cases h : P p q with
                    | true => exact absurd ((HMEET.out p q).2 h) h1
                    | false => rfl
                  have HNY : Hid (∃ sv, EAcc wr B m sv (prsTo P m p (q + 1))) := by
                    rw [Hid, prsTo_next, hPf, Bool.and_false, if_neg (by decide), List.append_nil]
                    exact hat.out
                  clear hno hat hPf
                  go_wp2
                  go_roundg (m - (q + 1))
                  case measure => omega
                  case rel => exact ⟨q + 1, by omega, by omega, Nat.le_refl _, by go_num, HNY, hbt⟩
            · obtain rfl : q = m := by omega
              obtain ⟨sv, hacc⟩ := haq.out
              have HNY : Hid (EAcc wr B q sv (prsTo P q (p + 1) 0)) := by
                rw [Hid, ← prsTo_row P (n := q) (i := p) (j' := 0) (by omega)]
                exact hacc
              clear haq hacc
              go_wp2
              go_roundg (q - (p + 1))
              case measure => omega
              case rel => exact ⟨p + 1, sv, by omega, Nat.le_refl _, by go_num, HNY, hbq⟩
        · obtain rfl : p = m := by omega
          have hacc2 := hacc.out
          rw [prsTo_all P (show 0 ≤ p + 1 by omega)] at hacc2
          obtain ⟨E, hEe⟩ := ex_eq (allP P p)
          rw [← hEe] at hacc2
          obtain ⟨aS, cs, hsv, hsl, hea⟩ := eat_own hacc2.own
          subst hsv
          have b0 := cell_of_heap hacc2.box 0
          have b1 := cell_of_heap hacc2.box 1
          have C9 := hid (CD.out aS cs E wr hEe hea)
          have HBP := hid hbp.out
          have HBL : Hid (B ≤ wr.heap.size) := Nat.le_of_lt (Array.getElem?_eq_some_iff.1 hacc2.box).1
          clear hacc hacc2 hEe hsl hea CD hgp
          go_wp2_with fail
          refine C9.out.mono ?_
          rintro e w6 ⟨v6, rfl, ht6⟩
          obtain ⟨er, N6, E6, a6, c6, rfl, hs6, hsl6, hea6, hb6⟩ := ht6
          have hbB6 : Below B W3 w6 := HBP.out.trans (hb6.mono HBL.out)
          obtain ⟨_, hbw6, ho6, _⟩ := HGCX.out w6 hbB6
          have HDS := hid hs6
          have HSL6 := hid hsl6
          have HEA6 := hid hea6
          have HBw6 := hid hbw6
          have HNE6 := hid (eat_off_box ho6 hea6)
          have z0 := cell_of_heap ho6 0
          have z1 := cell_of_heap ho6 1
          have zf0 := frozen_of_heap ho6 0
          have zf1 := frozen_of_heap ho6 1
          clear C9 hs6 hsl6 hea6 hb6 hbB6 hbw6 ho6 g0 g1 b0 b1
          go_wp2
          refine bodyPost_ret (v := .tuple #[.agg #[.int .i64 N6, .slice a6 E6.length c6], .int .i64 er]) ?_ rfl ⟨_, rfl, er, N6, E6, a6, c6, rfl, HDS.out, HSL6.out, ?_, ?_⟩
          · rw [results_cell_tmp rfl]
            go_simp
          · have hne : ∀ g off, 0 < E6.length → a6 = some ⟨g, off, none⟩ → g ≠ w.heap.size + 1 := HNE6.out
            exact (HEA6.out.set (p := ⟨w.heap.size + 1, 0, none⟩) hne _).set (p := ⟨w.heap.size + 1, 1, none⟩) hne _
          · exact (HBw6.out.setCell (p := ⟨w.heap.size + 1, 0, none⟩) (by simp) _).setCell (p := ⟨w.heap.size + 1, 1, none⟩) (by simp) _
end Go.Proofs.Ytagigeieoijciaa
