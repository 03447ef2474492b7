/-
  The program's distances: a search, one vertex behind the other.
  The program's Whole keeps its contract.
  The small case that the laws of layer 5 begin with answers true.
-/
import Derived.Test.YtckcbaegehfkoaaB10
import Derived.Test.YtckcbaegehfkoaaB12
import Derived.Test.YtckcbaegehfkoaaB07
import Derived.Test.YtckcbaegehfkoaaB11
import Derived.Test.YtckcbaegehfkoaaB08
namespace Go.Proofs.Ytckcbaegehfkoaa
open Go.RowKit Go.Lib

theorem news_oneI {w : World} {x : Value} {t : TypeId} : ∀ p, some (⟨w.heap.size, 0, none⟩ : Addr) = some p → ∀ j u, [x][j]? = some u → (w.alloc (.cells #[x] t)).cell? (p.add j) = some u := fun p hp j u hj => by
  cases hp
  cases j with
  | zero => simp at hj; subst hj; rw [add_at]; exact cell_of_heap (heap_alloc_new w _) 0
  | succ j => simp at hj
theorem own_one (w : World) (base : Nat) (x : Value) (t : TypeId) (hb : base ≤ w.heap.size) : (w.alloc (.cells #[x] t)).ownsRow base t 1 (.slice (some ⟨w.heap.size, 0, none⟩) 1 1) 1 [x] :=
  ⟨rfl, Or.inr ⟨w.heap.size, 1, #[x], rfl, hb, heap_alloc_new _ _, Nat.le_refl _, by unfold maxLen; omega, rfl, rfl⟩⟩
theorem Row1.belowW {w w' : World} {g n : Nat} {c : Nat → Int} (h : Row1 w g n c) (hb : Below w.heap.size w w') : Row1 w' g n c := h.kept (KeptBut.of_whole (fun _ => False) hb) (fun e => e)
/-- What distances tells. -/
def DistIs (m : Nat) (es : List (Int × Int)) (O : Nat → Bool) (v : Nat) (w w' : World) (u : Value) : Prop :=
  ∃ (F : Nat) (D : Nat → Int), u = .slice (some ⟨F, 0, none⟩) m m ∧ w.heap.size ≤ F ∧ Row1 w' F m D ∧ Below w.heap.size w w' ∧ (∀ j, j < m → D j ≤ 1000) ∧
    ((O v = false ∧ ∀ j, j < m → D j = -1) ∨ (O v = true ∧ Lev m es (fun x => O x.toNat = true) v (fun x => D x.toNat)))
/-- The search in memory: what is found, in a row of its own, and how far off it lies. -/
structure Srch (w : World) (m : Nat) (es : List (Int × Int)) (O : Nat → Bool) (v FB B : Nat) (fv : Value) (F : List Int) (D : Nat → Int) (i : Nat) : Prop where
  own : w.ownsRow B 3 1 fv F.length (F.map (Value.int .i64))
  far : Row1 w FB m D
  bf : Bf m es (fun x => O x.toNat = true) v F (fun x => D x.toNat) i
  lt : FB < B
theorem Srch.len {w : World} {m : Nat} {es : List (Int × Int)} {O : Nat → Bool} {v FB B : Nat} {fv : Value} {F : List Int} {D : Nat → Int} {i : Nat} (h : Srch w m es O v FB B fv F D i) : F.length ≤ m := by
  have := len_le_subI (a := F) (b := (List.range m).map (fun j : Nat => (j : Int))) h.bf.nd (fun x hx => by
    have := (h.bf.inr x hx).1
    exact List.mem_map.2 ⟨x.toNat, by simp; omega, by omega⟩)
  simpa using this
theorem own_at {w : World} {B : Nat} {fv : Value} {F : List Int} (h : w.ownsRow B 3 1 fv F.length (F.map (Value.int .i64))) {j : Nat} (hj : j < F.length) : ∃ g cap, fv = .slice (some ⟨g, 0, none⟩) F.length cap ∧ B ≤ g ∧ w.cell? ⟨g, j, none⟩ = some (.int .i64 F[j]) := by
  rcases h.2 with ⟨_, h0⟩ | ⟨g, cap, cur, hv, hg, hgb, _⟩
  · simp at h0; rw [h0] at hj; simp at hj
  · refine ⟨g, cap, hv, hg, ?_⟩
    have := h.cells (g := g) (by rw [hv]; rfl) j (.int .i64 F[j]) (by rw [List.getElem?_map, List.getElem?_eq_getElem hj]; rfl)
    rw [add_at, Nat.zero_add] at this
    exact this
theorem Srch.at {w : World} {m : Nat} {es : List (Int × Int)} {O : Nat → Bool} {v FB B : Nat} {fv : Value} {F : List Int} {D : Nat → Int} {i : Nat} (h : Srch w m es O v FB B fv F D i) {j : Nat} (hj : j < F.length) : ∃ g cap, fv = .slice (some ⟨g, 0, none⟩) F.length cap ∧ B ≤ g ∧ w.cell? ⟨g, j, none⟩ = some (.int .i64 F[j]) := by
  rcases h.own.2 with ⟨_, h0⟩ | ⟨g, cap, cur, hv, hg, hgb, _⟩
  · simp at h0; rw [h0] at hj; simp at hj
  · refine ⟨g, cap, hv, hg, ?_⟩
    have := h.own.cells (g := g) (by rw [hv]; rfl) j (.int .i64 F[j]) (by rw [List.getElem?_map, List.getElem?_eq_getElem hj]; rfl)
    rw [add_at, Nat.zero_add] at this
    exact this
/-- One more is found: its distance is set, then it goes behind the others. -/
theorem Srch.put {w : World} {m : Nat} {es : List (Int × Int)} {O : Nat → Bool} {v FB B : Nat} {fv : Value} {F : List Int} {D : Nat → Int} {i : Nat} (h : Srch w m es O v FB B fv F D i) (hi : i < F.length) {u y : Nat} (hu : F[i] = (u : Int)) (ha : Adj es u y) (hy : y < m) (hO : O y = true) (hn : D y = -1) {w4 : World} {o : Obj} {fv' : Value}
    (hown : w4.ownsRow B 3 1 fv' (F.length + 1) (F.map (Value.int .i64) ++ [.int .i64 (y : Int)])) (hg : ((w.setCell ⟨FB, y, none⟩ (.int .i64 (D u + 1))).alloc o).grownBy w4 fv.ownBlock) : Srch w4 m es O v FB B fv' (F ++ [(y : Int)]) (fun j => if j = y then D u + 1 else D j) i := by
  have hnm : (y : Int) ∉ F := by
    rcases h.bf.mem (y : Int) (by omega) (by omega) with e | e
    · have := e.2; simp at this; omega
    · exact e.1
  refine ⟨by simpa using hown, ?_, ?_, h.lt⟩
  · have h1 := (h.far.put (i := y) hy (D u + 1)).alloc o
    refine h1.kept (KeptBut.of_grown hg) (fun e => ?_)
    have := h.own.lt FB e.symm
    have := h.lt
    omega
  · have := h.bf.put hi (v := (y : Int)) (by rw [hu]; exact ha) (by omega) (by simpa using hO) hnm
    have e : (fun x : Int => if x = (y : Int) then D F[i].toNat + 1 else D x.toNat) = fun x : Int => if x = (y : Int) then D u + 1 else D x.toNat := by rw [hu]; rfl
    rw [e] at this
    exact this.congr (fun x h0 _ => by
      show (if x = (y : Int) then D u + 1 else D x.toNat) = (if x.toNat = y then D u + 1 else D x.toNat)
      by_cases e : x = (y : Int)
      · subst e; simp
      · rw [if_neg e, if_neg (by omega)])
theorem Srch.mono {w w' : World} {m : Nat} {es : List (Int × Int)} {O : Nat → Bool} {v FB B : Nat} {fv : Value} {F : List Int} {D : Nat → Int} {i i' : Nat} (h : Srch w m es O v FB B fv F D i) (hb : Below w.heap.size w w') (hbf : Bf m es (fun x => O x.toNat = true) v F (fun x => D x.toNat) i') : Srch w' m es O v FB B fv F D i' :=
  ⟨own_below h.own hb, h.far.belowW hb, hbf, h.lt⟩

set_option maxHeartbeats 4000000 in
set_option maxRecDepth 100000 in
theorem dist_any (g m : Nat) (es : List (Int × Int)) (v G : Nat) (O : Nat → Bool) (w : World) (hm : m ≤ 1000) (hR : RightG m es) (hv : v < m) (hnear : NearAt w g m es) (hop : RowB w G m O) :
    Calls Try.prog 84 #[.slice (some ⟨g, 0, none⟩) m m, .int .i64 v, .slice (some ⟨G, 0, none⟩) m m] w fun e w' => ∃ u, e = .returned u ∧ DistIs m es O v w w' u := by
  have hbA : Below w.heap.size w (w.alloc (.cells #[.int .i64 (-1)] 3)) := (Below.refl _ _).alloc (Nat.le_refl _) _
  have hsA : (w.alloc (.cells #[.int .i64 (-1)] 3)).heap.size = w.heap.size + 1 := by simp
  have HRP := hid (rep_int w.heap.size 0 1 (-1) m (w.alloc (.cells #[.int .i64 (-1)] 3)) hm (cell_of_heap (heap_alloc_new w _) 0))
  have HNE : Hid (∀ u, u < m → ∃ au cu, ∀ X, Below w.heap.size w X → X.cell? ⟨g, u, none⟩ = some (.slice au (nbL u es).length cu) ∧ IAt X au (nbL u es)) := fun u hu => by
    obtain ⟨au, cu, h1, h2, _⟩ := hnear.2 u hu
    exact ⟨au, cu, fun X hX => ⟨(hX.cell (p := ⟨g, u, none⟩) hnear.1).trans h1, h2.below hX⟩⟩
  have HOP : Hid (∀ X, Below w.heap.size w X → RowB X G m O) := fun X hX => hop.below hX
  have HR := hid hR
  clear hnear hop hR
  go_enter Try.func84, Try.ntmps84
  go_wp2_with fail
  refine HRP.out.mono ?_
  rintro e w1 ⟨FB, rfl, hFB, hrow0, hb1⟩
  rw [hsA] at hFB hb1
  have hbw : Below w.heap.size w w1 := hbA.trans (hb1.mono (by omega))
  have HRW := hid hrow0
  have hFlt : FB < w1.heap.size := hrow0.1
  obtain ⟨o0, _⟩ := (HOP.out w1 hbw).2 v hv
  obtain ⟨f0, f0f⟩ := hrow0.2 v hv
  obtain ⟨ov, hov⟩ := ex_eq (O v)
  rw [← hov] at o0
  have HOV := hid hov
  have q0 : (v : Int) < (m : Int) := by omega
  clear hrow0 HRP hb1 hbA hsA hov
  cases ov with
  | false =>
    go_wp2
    go_ret
    exact ⟨_, rfl, FB, _, rfl, by omega, HRW.out, hbw, (fun _ _ => by omega), Or.inl ⟨HOV.out.symm, fun _ _ => rfl⟩⟩
  | true =>
    obtain ⟨W1, hW1⟩ := ex_eq ((w1.setCell ⟨FB, v, none⟩ (.int .i64 0)).alloc (.cells #[.int .i64 v] 3))
    have hbW1 : Below w.heap.size w W1 := by rw [hW1]; exact (hbw.setCell (p := ⟨FB, v, none⟩) (by simp; omega) _).alloc (by simp; exact hbw.size) _
    have HS0 : Hid (Srch W1 m es O v FB w1.heap.size (.slice (some ⟨w1.heap.size, 0, none⟩) 1 1) [(v : Int)] (fun j => if j = v then 0 else -1) 0) := by
      refine ⟨?_, ?_, ?_, hFlt⟩
      · rw [hW1]
        have := own_one (w1.setCell ⟨FB, v, none⟩ (.int .i64 0)) w1.heap.size (.int .i64 v) 3 (by simp)
        simpa using this
      · rw [hW1]; exact (HRW.out.put hv 0).alloc _
      · refine (bf_start (b := (v : Int)) (by omega) (by simpa using HOV.out.symm)).congr (fun x h0 _ => ?_)
        show (if x = (v : Int) then (0 : Int) else -1) = (if x.toNat = v then 0 else -1)
        by_cases e : x = (v : Int)
        · subst e; simp
        · rw [if_neg e, if_neg (by omega)]
    obtain ⟨BB, hBB⟩ := ex_eq w1.heap.size
    have hsz1 : BB ≤ W1.heap.size := by rw [hBB, hW1]; simp
    rw [← hBB] at HS0
    have HW1 := hid hW1
    have HBB := hid hBB
    have hwB : w.heap.size ≤ BB := by rw [hBB]; exact hbw.size
    obtain ⟨i0, hi, hz0, hz1, hz2⟩ := info_parts Try.info3
    clear hW1 hBB HRW
    go_wp2
    rw [← HW1.out, ← HBB.out]
    clear HW1 HBB f0 f0f o0
    go_loopw [8, 9] (fun fv i wo => ∃ (F : List Int) (D : Nat → Int) (k : Nat), k ≤ F.length ∧ i = .int .i64 k ∧ Hid (Srch wo m es O v FB BB fv F D k) ∧ Below w.heap.size w wo ∧ BB ≤ wo.heap.size) (fun _ i _ => m + 1 - (RowKit.intOf i).toNat)
    case atStart => exact ⟨_, _, 0, by simp, rfl, HS0, hbW1, hsz1⟩
    case round =>
      rename World => wo
      obtain ⟨F, D, k, hk, rfl, hs, hbo, hszo⟩ := hrel
      have hlen := hs.out.len
      by_cases hlt : k < F.length
      · obtain ⟨gf, cf, rfl, hgf, cF⟩ := hs.out.at hlt
        have hin := (hs.out.bf.inr _ (List.getElem_mem hlt)).1
        obtain ⟨u, hu⟩ : ∃ u : Nat, (u : Int) = F[k] := ⟨F[k].toNat, by omega⟩
        rw [← hu] at cF hin
        have hum : u < m := by omega
        obtain ⟨au, cu, aa⟩ := HNE.out u hum
        obtain ⟨a1, _⟩ := aa wo hbo
        obtain ⟨L, hL⟩ := ex_eq (nbL (u : Int) es)
        rw [← hL] at a1 aa
        have hLl : L.length ≤ 1000000 := by rw [hL]; exact Nat.le_trans (nbL_len _ _) (by have := HR.out.2.2.1; omega)
        obtain ⟨J, hJ⟩ := ex_eq L.length
        obtain ⟨K, hK⟩ := ex_eq F.length
        rw [← hJ] at a1 hLl
        have HL := hid hL
        have HJ := hid hJ
        have HK := hid hK
        have HIA : Hid (∀ X, Below w.heap.size w X → IAt X au L) := fun X hX => (aa X hX).2
        have HU : Hid (F[k]? = some (u : Int)) := by show _ = _; rw [List.getElem?_eq_getElem hlt, hu]
        have hlt2 : k < K := by omega
        have hKm : K ≤ m := by omega
        rw [← hK] at hs ⊢
        have q1 : (k : Int) < (K : Int) := by omega
        have q2 : (u : Int) < (m : Int) := by omega
        have HSI : Hid (∃ F' D', Srch wo m es O v FB BB (.slice (some ⟨gf, 0, none⟩) K cf) F' D' k ∧ F'[k]? = some (u : Int) ∧ ∀ y ∈ L.take 0, O y.toNat = true → y ∈ F') := ⟨F, D, hs.out, HU.out, by simp⟩
        have hgfl : gf < wo.heap.size := block_lt_of_cell cF
        clear hL hJ hK hu hin aa hs HU hlen
        go_wp2
        go_loopg [8, 41] J (fun Gh fv i wz => ∃ (c : Nat), c ≤ J ∧ J - c ≤ Gh ∧ i = .int .i64 c ∧ Hid (∃ F' D', Srch wz m es O v FB BB fv F' D' k ∧ F'[k]? = some (u : Int) ∧ ∀ y ∈ L.take c, O y.toNat = true → y ∈ F') ∧ Below w.heap.size w wz ∧ BB ≤ wz.heap.size)
        case atStart => exact ⟨0, Nat.zero_le _, by omega, rfl, HSI, hbo, hszo⟩
        case round =>
          obtain ⟨c, hc, hGh, rfl, hsr, hbr, hszr⟩ := hrel
          by_cases hlc : c < J
          · have hcl : c < L.length := by rw [← HJ.out]; exact hlc
            have hadj : Adj es (u : Int) L[c] := (nbL_right (n := m) HR.out).1 (by rw [← HL.out]; exact List.getElem_mem hcl)
            have hyr := (hadj.in HR.out).2.1
            obtain ⟨y, hy⟩ : ∃ y : Nat, (y : Int) = L[c] := ⟨L[c].toNat, by omega⟩
            rw [← hy] at hadj hyr
            have hym : y < m := by omega
            obtain ⟨ga, oa, rfl, hga, hca⟩ := HIA.out wr hbr (by omega)
            have d0 := hca c hcl
            rw [← hy] at d0
            obtain ⟨F', D', hS, hF', hall⟩ := hsr.out
            have HALL := hid hall
            have HSR := hid hS
            have hkF : k < F'.length := by
              by_cases e : k < F'.length
              · exact e
              · rw [List.getElem?_eq_none (by omega)] at hF'; cases hF'
            have hFk : F'[k] = (u : Int) := by rw [List.getElem?_eq_getElem hkF] at hF'; exact Option.some.inj hF'
            have HFK : Hid (∃ h : k < F'.length, F'[k] = (u : Int)) := ⟨hkF, hFk⟩
            have HF' := hid hF'
            obtain ⟨o1, _⟩ := (HOP.out wr hbr).2 y hym
            obtain ⟨r1, r1f⟩ := hS.far.2 y hym
            obtain ⟨r2, _⟩ := hS.far.2 u hum
            obtain ⟨oy, hoy⟩ := ex_eq (O y)
            obtain ⟨dy, hdy⟩ := ex_eq (D' y)
            obtain ⟨du, hdu⟩ := ex_eq (D' u)
            rw [← hoy] at o1
            rw [← hdy] at r1
            rw [← hdu] at r2
            have HOY := hid hoy
            have HDY := hid hdy
            have HDU := hid hdu
            have HY := hid hy
            have HADJ := hid hadj
            have HTK : Hid (∀ FF : List Int, (∀ z ∈ F', z ∈ FF) → (O y = true → (y : Int) ∈ FF) → ∀ z ∈ L.take (c + 1), O z.toNat = true → z ∈ FF) := fun FF h1 h2 z hz hO => by
              rw [List.take_append_getElem hcl |>.symm] at hz
              rcases List.mem_append.1 hz with hz | hz
              · exact h1 z (HALL.out z hz hO)
              · simp at hz
                rw [← HY.out] at hz
                subst hz
                exact h2 (by simpa using hO)
            have q3 : (c : Int) < (J : Int) := by omega
            have q4 : (y : Int) < (m : Int) := by omega
            have hlen' := hS.len
            have hdur : 0 ≤ du ∧ du ≤ 1000 := by
              have h1 := hS.bf.le k hkF
              simp only [hFk, Int.toNat_natCast] at h1
              have h2 := hS.bf.mem (u : Int) (by omega) (by omega)
              simp only [Int.toNat_natCast] at h2
              rw [hdu]
              rcases h2 with h2 | h2
              · exact ⟨h2.2, by omega⟩
              · exact absurd (by rw [← hFk]; exact List.getElem_mem hkF) h2.1
            obtain ⟨gf', cf', hfv, hgf', cF'⟩ := hS.at hkF
            subst hfv
            rw [hFk] at cF'
            obtain ⟨K', hK'⟩ := ex_eq F'.length
            rw [← hK'] at HSR hlen' hkF ⊢
            have HK' := hid hK'
            clear hy hadj hyr hca hS hF' hall hsr hFk hoy hdy hdu hK'
            cases oy with
            | false =>
              have HNX : Hid (∃ F' D', Srch wr m es O v FB BB (.slice (some ⟨gf', 0, none⟩) K' cf') F' D' k ∧ F'[k]? = some (u : Int) ∧ ∀ z ∈ L.take (c + 1), O z.toNat = true → z ∈ F') := ⟨F', D', HSR.out, HF'.out, HTK.out F' (fun z h => h) (fun h => by rw [← HOY.out] at h; cases h)⟩
              clear HTK HALL HSR HFK HF' HDY HDU HY HADJ HOY
              go_wp2
              go_roundg (J - (c + 1))
              case measure => omega
              case rel => exact ⟨c + 1, by omega, Nat.le_refl _, by go_num, HNX, hbr, hszr⟩
            | true =>
              by_cases hdn : 0 ≤ dy
              · have e1 : ¬ dy < 0 := by omega
                have e2 : decide (dy < 0) = false := decide_eq_false e1
                have HNX : Hid (∃ F' D', Srch wr m es O v FB BB (.slice (some ⟨gf', 0, none⟩) K' cf') F' D' k ∧ F'[k]? = some (u : Int) ∧ ∀ z ∈ L.take (c + 1), O z.toNat = true → z ∈ F') := ⟨F', D', HSR.out, HF'.out, HTK.out F' (fun z h => h) (fun _ => by
                  rcases HSR.out.bf.mem (y : Int) (by omega) q4 with h | h
                  · exact h.1
                  · have := h.2; simp at this; rw [← HDY.out] at this; omega)⟩
                clear HTK HALL HSR HFK HF' HDY HDU HY HADJ HOY
                go_wp2
                go_roundg (J - (c + 1))
                case measure => omega
                case rel => exact ⟨c + 1, by omega, Nat.le_refl _, by go_num, HNX, hbr, hszr⟩
              · have e1 : dy < 0 := by omega
                have e2 : decide (dy < 0) = true := decide_eq_true e1
                have e3 : IntKind.i64.wrap (du + 1) = du + 1 := by simp [IntKind.wrap, IntKind.bits, IntKind.signed]; omega
                have hdy1 : D' y = -1 := by
                  rcases HSR.out.bf.mem (y : Int) (by omega) q4 with h | h
                  · have := h.2; simp at this; rw [← HDY.out] at this; omega
                  · have := h.2; simp at this; exact this
                obtain ⟨W2, hW2⟩ := ex_eq (wr.setCell ⟨FB, y, none⟩ (.int .i64 (du + 1)))
                have hkp2 : KeptBut (fun x => x = FB) wr W2 := by rw [hW2]; exact kept_set wr ⟨FB, y, none⟩ _
                have hsW2 : W2.heap.size = wr.heap.size := by rw [hW2]; simp
                have hFBB := HSR.out.lt
                have HOW : Hid ((W2.alloc (.cells #[.int .i64 y] 3)).ownsRow BB 3 1 (.slice (some ⟨gf', 0, none⟩) K' cf') K' (F'.map (Value.int .i64))) := by
                  show World.ownsRow _ _ _ _ _ _ _
                  have := HSR.out.own
                  rw [← HK'.out] at this
                  refine World.ownsRow.alloc (own_kept this hkp2 (fun g0 h0 e => ?_)) _
                  obtain rfl : gf' = g0 := by simpa [Value.ownBlock] using h0
                  omega
                have HNW : Hid (∀ p, some (⟨W2.heap.size, 0, none⟩ : Addr) = some p → ∀ j u, [Value.int .i64 (y : Int)][j]? = some u → (W2.alloc (.cells #[.int .i64 y] 3)).cell? (p.add j) = some u) := news_oneI
                have HON : Hid (∀ v ∈ [Value.int .i64 (y : Int)], v.oneCell' = true) := fun v hv => by simp at hv; rw [hv]; rfl
                have H63 : Hid (K' + 1 ≤ maxLen) := by show K' + 1 ≤ maxLen; unfold maxLen; omega
                have HBS : Hid (BB ≤ (W2.alloc (.cells #[.int .i64 y] 3)).heap.size) := by show BB ≤ _; simp; omega
                have HKP : Hid (∀ w4, (W2.alloc (.cells #[.int .i64 y] 3)).grownBy w4 (Value.slice (some ⟨gf', 0, none⟩) K' cf').ownBlock → Below w.heap.size w w4 ∧ BB ≤ w4.heap.size) := fun w4 hg => by
                  refine ⟨Below.grown (show Below w.heap.size w (W2.alloc _) from ?_) hg (by simp; omega) (fun j hj => by obtain rfl : gf' = j := by { simpa [Value.ownBlock] using hj }; omega), Nat.le_trans HBS.out hg.size⟩
                  rw [hW2]
                  exact (hbr.setCell (p := ⟨FB, y, none⟩) (by simp; omega) _).alloc (by simp; exact hbr.size) _
                have HSP : Hid (∀ w4 v4, w4.ownsRow BB 3 1 v4 (K' + 1) (F'.map (Value.int .i64) ++ [.int .i64 (y : Int)]) → (W2.alloc (.cells #[.int .i64 y] 3)).grownBy w4 (Value.slice (some ⟨gf', 0, none⟩) K' cf').ownBlock → ∃ F' D', Srch w4 m es O v FB BB v4 F' D' k ∧ F'[k]? = some (u : Int) ∧ ∀ z ∈ L.take (c + 1), O z.toNat = true → z ∈ F') := fun w4 v4 h1 h2 => by
                  obtain ⟨hkF, hFk⟩ := HFK.out
                  rw [hW2, HDU.out] at h2
                  rw [HK'.out] at h1
                  refine ⟨_, _, HSR.out.put hkF hFk HADJ.out hym HOY.out.symm hdy1 h1 h2, ?_, HTK.out _ (fun z h => List.mem_append_left _ h) (fun _ => by simp)⟩
                  rw [List.getElem?_append_left hkF]
                  exact HF'.out
                have HW2 := hid hW2
                clear hW2 HTK HALL HSR HFK HF' HDY HDU HY HADJ HOY hkp2 hsW2 hdy1 HK'
                go_upto_region 14 with fail
                rw [← HW2.out]
                clear HW2
                go_wp2_with (at_builtin; refine wpList_append_any _ rfl _ _ 25 rfl BB 3 i0 _ 1 8 Try.underlying25 hi hz0 hz1 hz2 rfl (by decide) _ _ _ rfl HOW.out (some ⟨W2.heap.size, 0, none⟩) 1 1 [.int .i64 y] rfl (fun h => by cases h) rfl HNW.out HON.out H63.out ?c4 HBS.out ?_)
                case c4 => omega
                intro v4 w4 hown4 hgrow _
                have HNX := hid (HSP.out w4 v4 hown4 hgrow)
                obtain ⟨hb4, hsz4⟩ := HKP.out w4 hgrow
                clear hown4 hgrow HKP HSP HBS H63 HON HNW HOW
                go_wp2
                go_roundg (J - (c + 1))
                case measure => omega
                case rel => exact ⟨c + 1, by omega, Nat.le_refl _, by go_num, HNX, hb4, hsz4⟩
          · obtain rfl : c = J := by omega
            obtain ⟨F', D', hS, hF', hall⟩ := hsr.out
            have hkF : k < F'.length := by
              by_cases e : k < F'.length
              · exact e
              · rw [List.getElem?_eq_none (by omega)] at hF'; cases hF'
            have hFk : F'[k] = (u : Int) := by rw [List.getElem?_eq_getElem hkF] at hF'; exact Option.some.inj hF'
            have hlen' := hS.len
            have HNX : Hid (Srch wr m es O v FB BB u8 F' D' (k + 1)) := hS.mono (Below.refl _ _) (hS.bf.next hkF (fun z ha hO => by
              rw [hFk] at ha
              have : z ∈ L := by rw [HL.out]; exact (nbL_right (n := m) HR.out).2 ha
              exact hall z (by rw [HJ.out, List.take_length]; exact this) hO))
            have hkm : k < m := by omega
            clear hS hF' hall hsr hFk
            go_wp2
            go_roundw
            case rel => exact ⟨F', D', k + 1, by omega, by go_num, HNX, hbr, hszr⟩
            case measure => simp [RowKit.intOf]; omega
      · obtain rfl : k = F.length := by omega
        have hbf := hs.out.bf.lev HR.out
        have HLE : Hid (∀ j, j < m → D j ≤ 1000) := fun j hj => by
          rcases hs.out.bf.mem (j : Int) (by omega) (by omega) with h | h
          · obtain ⟨i, hi', e⟩ := List.getElem_of_mem h.1
            have h1 := hs.out.bf.le i hi'
            rw [e] at h1
            simp only [Int.toNat_natCast] at h1
            omega
          · have := h.2
            simp only [Int.toNat_natCast] at this
            omega
        have HLV := hid hbf
        have HFR := hid hs.out.far
        obtain ⟨af, cf, rfl, hsl⟩ := sl_own hs.out.own
        obtain ⟨K, hK⟩ := ex_eq F.length
        rw [← hK] at hs ⊢
        clear hbf hs hK
        go_wp2
        go_ret
        exact ⟨_, rfl, FB, D, rfl, by omega, HFR.out, hbo, HLE.out, Or.inr ⟨HOV.out.symm, HLV.out⟩⟩
end Go.Proofs.Ytckcbaegehfkoaa
namespace Go.Proofs.Ytckcbaegehfkoaa
open Go.RowKit Go.Lib Go.Shelf

/-- A number below m. -/
def capM (m x : Nat) : Nat := if x < m then x else 0
theorem capM_lt {m : Nat} (hm : 0 < m) (x : Nat) : capM m x < m := by unfold capM; split <;> omega
set_option maxHeartbeats 400000 in
theorem farneg_any (m F bx x : Nat) (D : Nat → Int) (r : Bool) (w : World) (hx : x < m) (hb : w.cell? ⟨bx, 0, none⟩ = some (.slice (some ⟨F, 0, none⟩) m m)) (hF : Row1 w F m D) (hr : r = decide (D x < 0)) :
    Calls Try.prog 86 #[.int .i64 x, .pointer (some ⟨bx, 0, none⟩)] w fun e w' => e = .returned (.bool r) ∧ w' = w := by
  obtain ⟨f1, _⟩ := hF.2 x hx
  have q : (x : Int) < (m : Int) := by omega
  obtain ⟨d, hd⟩ := ex_eq (D x)
  rw [← hd] at f1 hr
  clear hF hd
  go_enter Try.func86, Try.ntmps86
  go_wp2
  go_ret
  exact ⟨by rw [hr]; rfl, rfl⟩
theorem anyFar (m F bx : Nat) (D : Nat → Int) (la : Option Addr) (lc : Nat) (l : List Int) (r : Bool) (w : World) (hm : 0 < m) (hl0 : 0 < l.length) (hl : l.length ≤ 1000000) (hin : ∀ x ∈ l, 0 ≤ x ∧ x < m) (hI : IAt w la l) (hb : w.cell? ⟨bx, 0, none⟩ = some (.slice (some ⟨F, 0, none⟩) m m)) (hF : Row1 w F m D) (hr : r = true ↔ ∀ x ∈ l, 0 ≤ D x.toNat) :
    Calls Try.prog 85 #[.slice la l.length lc, .func (.func 86) #[] #[.pointer (some ⟨bx, 0, none⟩)]] w fun e w' => e = .returned (.bool (!r)) ∧ ∃ q, w' = w.drewN q := by
  obtain ⟨g, off, rfl, hg, hc⟩ := hI hl0
  have hbl := block_lt_of_cell hb
  have eg : ∀ args w, (callFunc 86 args).run Try.prog w = .ok (.enter 86 args) w := enters_of Try.func86 (by kernel_rfl) rfl
  have hp : PredAt Try.prog 86 #[.pointer (some ⟨bx, 0, none⟩)] (fun x : Nat => Value.int .i64 (capM m x : Nat)) (fun x => decide (D (capM m x) < 0)) w := fun W x hW => by
    refine (farneg_any m F bx (capM m x) D _ W (capM_lt hm x) ((hW.cell (p := ⟨bx, 0, none⟩) hbl).trans hb) (hF.belowW hW) rfl).mono ?_
    rintro e w' ⟨rfl, rfl⟩
    exact ⟨rfl, 0, rfl⟩
  have h := AnyE.slices_ContainsFunc Try.containsFunc (fun x : Nat => Value.int .i64 (capM m x : Nat)) (fun x => decide (D (capM m x) < 0)) 86 #[.pointer (some ⟨bx, 0, none⟩)] eg g off l.length lc (l.map Int.toNat) w hp (by simp) (by omega) (fun j hj => by
    have hj' : j < l.length := by simpa using hj
    rw [hc j hj', getElem!_pos (l.map Int.toNat) j hj]
    have := hin _ (List.getElem_mem hj')
    simp only [List.getElem_map]
    unfold capM
    rw [if_pos (by omega)]
    congr 2
    omega)
  change Calls Try.prog 85 _ _ _ at h
  have e : ((l.map Int.toNat).take l.length).any (fun x => decide (D (capM m x) < 0)) = !r := by
    rw [List.take_of_length_le (by simp)]
    cases r with
    | true =>
      have h1 := hr.1 rfl
      simp only [Bool.not_true, List.any_eq_false, List.mem_map]
      rintro x ⟨z, hz, rfl⟩
      have h2 := hin z hz
      have h3 := h1 z hz
      unfold capM
      rw [if_pos (by omega)]
      simp
      omega
    | false =>
      have h1 : ¬ ∀ x ∈ l, 0 ≤ D x.toNat := fun h => by have := hr.2 h; cases this
      simp only [Bool.not_false, List.any_eq_true, List.mem_map]
      have h2 : ∃ x ∈ l, D x.toNat < 0 := by
        apply Classical.byContradiction
        intro hn
        exact h1 (fun x hx => by
          by_cases e : D x.toNat < 0
          · exact absurd ⟨x, hx, e⟩ hn
          · omega)
      obtain ⟨x, hx, hd⟩ := h2
      have h2 := hin x hx
      refine ⟨x.toNat, ⟨x, hx, rfl⟩, ?_⟩
      unfold capM
      rw [if_pos (by omega)]
      simpa using hd
  rw [e] at h
  exact h

set_option maxHeartbeats 2000000 in
set_option maxRecDepth 100000 in
theorem whole_any (n : Int) (a : Option Addr) (cap : Nat) (es : List (Int × Int)) (pa : Option Addr) (pc : Nat) (p : List Int) (b r : Bool) (w : World) (hN : es.length ≤ 1000000) (hP : p.length ≤ 1000000) (hE : EAt w a es) (hI : IAt w pa p) (hb : b = true ↔ RightG n es) (hr : r = true ↔ (RightG n es ∧ WholeL n es p)) :
    Calls Try.prog 56 #[.agg #[.int .i64 n, .slice a es.length cap], .slice pa p.length pc] w fun e w' => e = .returned (.bool r) ∧ Below w.heap.size w w' := by
  obtain ⟨N, hNe⟩ := ex_eq es.length
  obtain ⟨M, hMe⟩ := ex_eq p.length
  obtain ⟨W, hW⟩ := ex_eq (w.alloc (.cells #[.int .i64 n, .slice a N cap] 30))
  have hbW : Below w.heap.size w W := by rw [hW]; exact (Below.refl _ _).alloc (Nat.le_refl _) _
  have hO : W.heap[w.heap.size]? = some (.cells #[.int .i64 n, .slice a N cap] 30 (0, 0)) := by rw [hW]; exact heap_alloc_new _ _
  have hsW : w.heap.size < W.heap.size := (Array.getElem?_eq_some_iff.1 hO).1
  have CN : Hid (Calls Try.prog 70 #[.agg #[.int .i64 n, .slice a N cap]] W fun e w' => ∃ v, e = .returned v ∧ NbIs n es b W w' v) := by
    rw [hNe]; exact neighb_any n a cap es b W hN (hE.below hbW) hb
  have CM : Hid (∀ (m : Nat) X, m ≤ 1000 → Below w.heap.size w X → Calls Try.prog 71 #[.int .i64 m, .slice pa M pc] X fun e w' => ∃ v, e = .returned v ∧ MarkIs m p X w' v) := fun m X hm hX => by
    rw [hMe]; exact marked_any m pa pc p X hm hP (hI.below hX)
  have HR := hid hr
  have HBB := hid hb
  have HM := hid hMe
  have HW := hid hW
  have HBW := hid hbW
  have HI := hid hI
  rw [← hMe] at hP ⊢
  rw [← hNe]
  clear hNe hMe hW hbW hO hE hI hb hr hN
  go_enter Try.func56, Try.ntmps56
  go_wp2_with fail
  rw [← HW.out]
  refine CN.out.mono ?_
  rintro e w1 ⟨v, rfl, hv⟩
  rcases hv with ⟨hb0, rfl, hb1⟩ | ⟨hb0, m, g, rfl, rfl, hgW, hnear, hb1⟩
  · have hbw1 : Below w.heap.size w w1 := HBW.out.trans (hb1.mono (by omega))
    obtain rfl : r = false := b_false HR.out (fun h => by have := HBB.out.2 h.1; rw [hb0] at this; cases this)
    have C0 := hid (CM.out 0 w1 (by omega) hbw1)
    have HB1 := hid hbw1
    clear CM CN hb1 hbw1 HR HBB
    go_wp2_with (go_at_call 71; refine C0.out.mono ?_; rintro e w2 ⟨v, rfl, hm⟩; rcases hm with ⟨hg, _⟩ | ⟨_, u, rfl, hb2⟩; exact absurd hg good_none)
    have HB2 := hid (HB1.out.trans (hb2.mono HB1.out.size))
    clear hb2
    go_wp2
    go_ret
    exact ⟨rfl, HB2.out⟩
  · have hRG := HBB.out.1 hb0
    have hm : m ≤ 1000 := by have := hRG.2.1; omega
    have hbw1 : Below w.heap.size w w1 := HBW.out.trans (hb1.mono (by omega))
    have HRG := hid hRG
    have HNA := hid hnear
    have C0 := hid (CM.out m w1 hm hbw1)
    have HB1 := hid hbw1
    clear CM CN hb1 hbw1 hnear hRG
    go_wp2_with fail
    refine C0.out.mono ?_
    rintro e w2 ⟨v, rfl, hmk⟩
    rcases hmk with ⟨hgood, g2, rfl, hg2, hrow, hb2⟩ | ⟨hbad, u, rfl, hb2⟩
    · have HB2 := hid (HB1.out.trans (hb2.mono HB1.out.size))
      have HGD := hid hgood
      have hM0 : 0 < M := by rw [HM.out]; exact List.length_pos_iff.2 hgood.1
      have hp0 : 0 < p.length := by rw [← HM.out]; exact hM0
      have hin0 := hgood.2.2 _ (List.getElem_mem hp0)
      obtain ⟨x, hx⟩ : ∃ x : Nat, (x : Int) = p[0] := ⟨p[0].toNat, by omega⟩
      rw [← hx] at hin0
      have hxm : x < m := by omega
      obtain ⟨gp, op, rfl, hgl, hcs⟩ := HI.out hp0
      have d0 := (HB2.out.cell (p := ⟨gp, op + 0, none⟩) hgl).trans (hcs 0 hp0)
      rw [← hx, Nat.add_zero] at d0
      have CD := hid (dist_any g m es x g2 (fun j => decide ((j : Int) ∈ p)) w2 hm HRG.out hxm (HNA.out.below hb2) hrow)
      have HX := hid hx
      have HP0 : Hid (0 < p.length) := hp0
      have q0 : (0 : Int) < (M : Int) := by omega
      clear hb2 hgood C0 HBB HNA HB1 hrow hx hin0 hcs
      go_wp2_with fail
      refine CD.out.mono ?_
      rintro e w3 ⟨v, rfl, F, D, rfl, hF, hrow3, hb3, _, hlev⟩
      have hbw3 : Below w.heap.size w w3 := HB2.out.trans (hb3.mono HB2.out.size)
      have HLV : Hid (Lev m es (fun z => z ∈ p) (x : Int) (fun z => D z.toNat)) := by
        rcases hlev with ⟨h0, _⟩ | ⟨_, h1⟩
        · exfalso
          have : decide ((x : Int) ∈ p) = true := decide_eq_true (by rw [HX.out]; exact List.getElem_mem _)
          have h0' : decide ((x : Int) ∈ p) = false := h0
          rw [this] at h0'
          cases h0'
        · refine h1.congr HRG.out (fun z h2 h3 => ?_)
          show decide ((z.toNat : Int) ∈ p) = true ↔ z ∈ p
          rw [decide_eq_true_eq, Int.toNat_of_nonneg h2]
      have HR2 : Hid (r = true ↔ ∀ z ∈ p, 0 ≤ D z.toNat) := by
        show r = true ↔ _
        rw [HR.out]
        have hh := HLV.out
        rw [HX.out] at hh
        have := hh.whole HRG.out HGD.out.2.1 HGD.out.2.2 HP0.out
        rw [this]
        exact ⟨fun h => h.2, fun h => ⟨HRG.out, h⟩⟩
      have HA := hid (anyFar m F w3.heap.size D (some ⟨gp, op, none⟩) pc p r (w3.alloc (.cells #[.slice (some ⟨F, 0, none⟩) m m] 25)) (by omega) HP0.out (by rw [← HM.out]; exact hP) HGD.out.2.2 (HI.out.below (hbw3.alloc hbw3.size _)) (cell_of_heap (heap_alloc_new w3 _) 0) (hrow3.alloc _) HR2.out)
      rw [← HM.out] at HA
      have HB4 : Hid (∀ q, Below w.heap.size w ((w3.alloc (.cells #[.slice (some ⟨F, 0, none⟩) m m] 25)).drewN q)) := fun q => below_drewN (hbw3.alloc hbw3.size _) q
      clear hlev hrow3 hb3 hbw3 HR2 HR HLV
      go_wp2_with (go_at_call 85; refine HA.out.mono ?_; rintro e w5 ⟨rfl, q, hw5⟩; rw [hw5]; clear hw5)
      go_ret
      exact ⟨by simp, HB4.out _⟩
    · have HB2 := hid (HB1.out.trans (hb2.mono HB1.out.size))
      obtain rfl : r = false := b_false HR.out (fun h => hbad ⟨h.2.ne, h.2.nd, h.2.inn⟩)
      clear hb2 HR hbad C0 HBB HNA HB1
      go_wp2
      go_ret
      exact ⟨rfl, HB2.out⟩
end Go.Proofs.Ytckcbaegehfkoaa
namespace Go.Proofs.Ytckcbaegehfkoaa
open Go.RowKit Go.Lib

def esS : List (Int × Int) := [(0, 1), (0, 3), (1, 2), (2, 3)]
/-- What lies in memory while the small case goes on. -/
structure ShW (w W : World) (B : Nat) (a1 a2 : Option Addr) : Prop where
  gc : GC W (B + 1) 4 (some ⟨B, 0, none⟩) 4 4 esS
  r1 : IAt W a1 [0, 3, 2]
  r2 : IAt W a2 [0, 2, 1, 3]
  bel : Below B w W
  le : B ≤ W.heap.size
theorem ShW.on {w W X : World} {B : Nat} {a1 a2 : Option Addr} (h : ShW w W B a1 a2) (hb : Below W.heap.size W X) : ShW w X B a1 a2 := ⟨h.gc.on hb, h.r1.below hb, h.r2.below hb, h.bel.trans (hb.mono h.le), Nat.le_trans h.le hb.size⟩
theorem below_one (W : World) (o : Obj) : Below W.heap.size W (W.alloc o) := (Below.refl _ _).alloc (Nat.le_refl _) o

end Go.Proofs.Ytckcbaegehfkoaa
