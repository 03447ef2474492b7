/-
  The program's distances: a search, one vertex behind the other.
  The program's renumbered keeps its contract: the edges under new numbers, in order.
  The program's renumbered keeps its contract, where a vertex goes and the others close up.
  The small case that the laws of layer 5 begin with answers true.
-/
import Derived.Test.YtplhpinaadgkkaaGreatB13
import Derived.Test.YtplhpinaadgkkaaGreatB19
import Derived.Test.YtplhpinaadgkkaaGreatB07
import Derived.Test.YtplhpinaadgkkaaGreatB09
import Derived.Test.YtplhpinaadgkkaaGreatB18
import Derived.Test.YtplhpinaadgkkaaGreatB03
import Derived.Test.YtplhpinaadgkkaaGreatB11
namespace Go.Proofs.YtplhpinaadgkkaaGreat
open Go.RowKit Go.Lib

theorem news_oneI {w : World} {x : Value} {t : TypeId} : ∀ p, some (⟨w.heap.size, 0, none⟩ : Addr) = some p → ∀ j u, [x][j]? = some u → (w.alloc (.cells #[x] t)).cell? (p.add j) = some u := fun p hp j u hj => by
  cases hp
  cases j with
  | zero => simp at hj; subst hj; rw [add_at]; exact cell_of_heap (heap_alloc_new w _) 0
  | succ j => simp at hj
theorem own_one (w : World) (base : Nat) (x : Value) (t : TypeId) (hb : base ≤ w.heap.size) : (w.alloc (.cells #[x] t)).ownsRow base t 1 (.slice (some ⟨w.heap.size, 0, none⟩) 1 1) 1 [x] :=
  ⟨rfl, Or.inr ⟨w.heap.size, 1, #[x], rfl, hb, heap_alloc_new _ _, Nat.le_refl _, by unfold maxLen; omega, rfl, rfl⟩⟩
theorem Row1.belowW {w w' : World} {g n : Nat} {c : Nat → Int} (h : Row1 w g n c) (hb : Below w.heap.size w w') : Row1 w' g n c := h.kept (KeptBut.of_whole (fun _ => False) hb) (fun e => e)
/-- What distances tells. -/
def DistIs (m : Nat) (es : List (Int × Int)) (O : Nat → Bool) (v : Nat) (w w' : World) (u : Value) : Prop :=
  ∃ (F : Nat) (D : Nat → Int), u = .slice (some ⟨F, 0, none⟩) m m ∧ w.heap.size ≤ F ∧ Row1 w' F m D ∧ Below w.heap.size w w' ∧ (∀ j, j < m → D j ≤ 1000) ∧
    ((O v = false ∧ ∀ j, j < m → D j = -1) ∨ (O v = true ∧ Lev m es (fun x => O x.toNat = true) v (fun x => D x.toNat)))
/-- The search in memory: what is found, in a row of its own, and how far off it lies. -/
structure Srch (w : World) (m : Nat) (es : List (Int × Int)) (O : Nat → Bool) (v FB B : Nat) (fv : Value) (F : List Int) (D : Nat → Int) (i : Nat) : Prop where
  own : w.ownsRow B 3 1 fv F.length (F.map (Value.int .i64))
  far : Row1 w FB m D
  bf : Bf m es (fun x => O x.toNat = true) v F (fun x => D x.toNat) i
  lt : FB < B
theorem Srch.len {w : World} {m : Nat} {es : List (Int × Int)} {O : Nat → Bool} {v FB B : Nat} {fv : Value} {F : List Int} {D : Nat → Int} {i : Nat} (h : Srch w m es O v FB B fv F D i) : F.length ≤ m := by
  have := len_le_subI (a := F) (b := (List.range m).map (fun j : Nat => (j : Int))) h.bf.nd (fun x hx => by
    have := (h.bf.inr x hx).1
    exact List.mem_map.2 ⟨x.toNat, by simp; omega, by omega⟩)
  simpa using this
theorem Srch.at {w : World} {m : Nat} {es : List (Int × Int)} {O : Nat → Bool} {v FB B : Nat} {fv : Value} {F : List Int} {D : Nat → Int} {i : Nat} (h : Srch w m es O v FB B fv F D i) {j : Nat} (hj : j < F.length) : ∃ g cap, fv = .slice (some ⟨g, 0, none⟩) F.length cap ∧ B ≤ g ∧ w.cell? ⟨g, j, none⟩ = some (.int .i64 F[j]) := by
  rcases h.own.2 with ⟨_, h0⟩ | ⟨g, cap, cur, hv, hg, hgb, _⟩
  · simp at h0; rw [h0] at hj; simp at hj
  · refine ⟨g, cap, hv, hg, ?_⟩
    have := h.own.cells (g := g) (by rw [hv]; rfl) j (.int .i64 F[j]) (by rw [List.getElem?_map, List.getElem?_eq_getElem hj]; rfl)
    rw [add_at, Nat.zero_add] at this
    exact this
/-- One more is found: its distance is set, then it goes behind the others. -/
theorem Srch.put {w : World} {m : Nat} {es : List (Int × Int)} {O : Nat → Bool} {v FB B : Nat} {fv : Value} {F : List Int} {D : Nat → Int} {i : Nat} (h : Srch w m es O v FB B fv F D i) (hi : i < F.length) {u y : Nat} (hu : F[i] = (u : Int)) (ha : Adj es u y) (hy : y < m) (hO : O y = true) (hn : D y = -1) {w4 : World} {o : Obj} {fv' : Value}
    (hown : w4.ownsRow B 3 1 fv' (F.length + 1) (F.map (Value.int .i64) ++ [.int .i64 (y : Int)])) (hg : ((w.setCell ⟨FB, y, none⟩ (.int .i64 (D u + 1))).alloc o).grownBy w4 fv.ownBlock) : Srch w4 m es O v FB B fv' (F ++ [(y : Int)]) (fun j => if j = y then D u + 1 else D j) i := by
  have hnm : (y : Int) ∉ F := by
    rcases h.bf.mem (y : Int) (by omega) (by omega) with e | e
    · have := e.2; simp at this; omega
    · exact e.1
  refine ⟨by simpa using hown, ?_, ?_, h.lt⟩
  · have h1 := (h.far.put (i := y) hy (D u + 1)).alloc o
    refine h1.kept (KeptBut.of_grown hg) (fun e => ?_)
    have := h.own.lt FB e.symm
    have := h.lt
    omega
  · have := h.bf.put hi (v := (y : Int)) (by rw [hu]; exact ha) (by omega) (by simpa using hO) hnm
    have e : (fun x : Int => if x = (y : Int) then D F[i].toNat + 1 else D x.toNat) = fun x : Int => if x = (y : Int) then D u + 1 else D x.toNat := by rw [hu]; rfl
    rw [e] at this
    exact this.congr (fun x h0 _ => by
      show (if x = (y : Int) then D u + 1 else D x.toNat) = (if x.toNat = y then D u + 1 else D x.toNat)
      by_cases e : x = (y : Int)
      · subst e; simp
      · rw [if_neg e, if_neg (by omega)])
theorem Srch.mono {w w' : World} {m : Nat} {es : List (Int × Int)} {O : Nat → Bool} {v FB B : Nat} {fv : Value} {F : List Int} {D : Nat → Int} {i i' : Nat} (h : Srch w m es O v FB B fv F D i) (hb : Below w.heap.size w w') (hbf : Bf m es (fun x => O x.toNat = true) v F (fun x => D x.toNat) i') : Srch w' m es O v FB B fv F D i' :=
  ⟨own_below h.own hb, h.far.belowW hb, hbf, h.lt⟩

set_option maxHeartbeats 4000000 in
set_option maxRecDepth 100000 in
theorem dist_any (g m : Nat) (es : List (Int × Int)) (v G : Nat) (O : Nat → Bool) (w : World) (hm : m ≤ 1000) (hR : RightG m es) (hv : v < m) (hnear : NearAt w g m es) (hop : RowB w G m O) :
    Calls Tryz.prog 49 #[.slice (some ⟨g, 0, none⟩) m m, .int .i64 v, .slice (some ⟨G, 0, none⟩) m m] w fun e w' => ∃ u, e = .returned u ∧ DistIs m es O v w w' u := by
  have hbA : Below w.heap.size w (w.alloc (.cells #[.int .i64 (-1)] 3)) := (Below.refl _ _).alloc (Nat.le_refl _) _
  have hsA : (w.alloc (.cells #[.int .i64 (-1)] 3)).heap.size = w.heap.size + 1 := by simp
  have HRP := hid (rep_int w.heap.size 0 1 (-1) m (w.alloc (.cells #[.int .i64 (-1)] 3)) hm (cell_of_heap (heap_alloc_new w _) 0))
  have HNE : Hid (∀ u, u < m → ∃ au cu, ∀ X, Below w.heap.size w X → X.cell? ⟨g, u, none⟩ = some (.slice au (nbL u es).length cu) ∧ IAt X au (nbL u es)) := fun u hu => by
    obtain ⟨au, cu, h1, h2, _⟩ := hnear.2 u hu
    exact ⟨au, cu, fun X hX => ⟨(hX.cell (p := ⟨g, u, none⟩) hnear.1).trans h1, h2.below hX⟩⟩
  have HOP : Hid (∀ X, Below w.heap.size w X → RowB X G m O) := fun X hX => hop.below hX
  have HR := hid hR
  clear hnear hop hR
  go_enter Tryz.func49, Tryz.ntmps49
  go_wp2_with fail
  refine HRP.out.mono ?_
  rintro e w1 ⟨FB, rfl, hFB, hrow0, hb1⟩
  rw [hsA] at hFB hb1
  have hbw : Below w.heap.size w w1 := hbA.trans (hb1.mono (by omega))
  have HRW := hid hrow0
  have hFlt : FB < w1.heap.size := hrow0.1
  obtain ⟨o0, _⟩ := (HOP.out w1 hbw).2 v hv
  obtain ⟨f0, f0f⟩ := hrow0.2 v hv
  obtain ⟨ov, hov⟩ := ex_eq (O v)
  rw [← hov] at o0
  have HOV := hid hov
  have q0 : (v : Int) < (m : Int) := by omega
  clear hrow0 HRP hb1 hbA hsA hov
  cases ov with
  | false =>
    go_wp2
    go_ret
    exact ⟨_, rfl, FB, _, rfl, by omega, HRW.out, hbw, (fun _ _ => by omega), Or.inl ⟨HOV.out.symm, fun _ _ => rfl⟩⟩
  | true =>
    obtain ⟨W1, hW1⟩ := ex_eq ((w1.setCell ⟨FB, v, none⟩ (.int .i64 0)).alloc (.cells #[.int .i64 v] 3))
    have hbW1 : Below w.heap.size w W1 := by rw [hW1]; exact (hbw.setCell (p := ⟨FB, v, none⟩) (by simp; omega) _).alloc (by simp; exact hbw.size) _
    have HS0 : Hid (Srch W1 m es O v FB w1.heap.size (.slice (some ⟨w1.heap.size, 0, none⟩) 1 1) [(v : Int)] (fun j => if j = v then 0 else -1) 0) := by
      refine ⟨?_, ?_, ?_, hFlt⟩
      · rw [hW1]
        have := own_one (w1.setCell ⟨FB, v, none⟩ (.int .i64 0)) w1.heap.size (.int .i64 v) 3 (by simp)
        simpa using this
      · rw [hW1]; exact (HRW.out.put hv 0).alloc _
      · refine (bf_start (b := (v : Int)) (by omega) (by simpa using HOV.out.symm)).congr (fun x h0 _ => ?_)
        show (if x = (v : Int) then (0 : Int) else -1) = (if x.toNat = v then 0 else -1)
        by_cases e : x = (v : Int)
        · subst e; simp
        · rw [if_neg e, if_neg (by omega)]
    obtain ⟨BB, hBB⟩ := ex_eq w1.heap.size
    have hsz1 : BB ≤ W1.heap.size := by rw [hBB, hW1]; simp
    rw [← hBB] at HS0
    have HW1 := hid hW1
    have HBB := hid hBB
    have hwB : w.heap.size ≤ BB := by rw [hBB]; exact hbw.size
    obtain ⟨i0, hi, hz0, hz1, hz2⟩ := info_parts Tryz.info3
    clear hW1 hBB HRW
    go_wp2
    rw [← HW1.out, ← HBB.out]
    clear HW1 HBB f0 f0f o0
    go_loopw [8, 9] (fun fv i wo => ∃ (F : List Int) (D : Nat → Int) (k : Nat), k ≤ F.length ∧ i = .int .i64 k ∧ Hid (Srch wo m es O v FB BB fv F D k) ∧ Below w.heap.size w wo ∧ BB ≤ wo.heap.size) (fun _ i _ => m + 1 - (RowKit.intOf i).toNat)
    case atStart => exact ⟨_, _, 0, by simp, rfl, HS0, hbW1, hsz1⟩
    case round =>
      rename World => wo
      obtain ⟨F, D, k, hk, rfl, hs, hbo, hszo⟩ := hrel
      have hlen := hs.out.len
      by_cases hlt : k < F.length
      · obtain ⟨gf, cf, rfl, hgf, cF⟩ := hs.out.at hlt
        have hin := (hs.out.bf.inr _ (List.getElem_mem hlt)).1
        obtain ⟨u, hu⟩ : ∃ u : Nat, (u : Int) = F[k] := ⟨F[k].toNat, by omega⟩
        rw [← hu] at cF hin
        have hum : u < m := by omega
        obtain ⟨au, cu, aa⟩ := HNE.out u hum
        obtain ⟨a1, _⟩ := aa wo hbo
        obtain ⟨L, hL⟩ := ex_eq (nbL (u : Int) es)
        rw [← hL] at a1 aa
        have hLl : L.length ≤ 1000000 := by rw [hL]; exact Nat.le_trans (nbL_len _ _) (by have := HR.out.2.2.1; omega)
        obtain ⟨J, hJ⟩ := ex_eq L.length
        obtain ⟨K, hK⟩ := ex_eq F.length
        rw [← hJ] at a1 hLl
        have HL := hid hL
        have HJ := hid hJ
        have HK := hid hK
        have HIA : Hid (∀ X, Below w.heap.size w X → IAt X au L) := fun X hX => (aa X hX).2
        have HU : Hid (F[k]? = some (u : Int)) := by show _ = _; rw [List.getElem?_eq_getElem hlt, hu]
        have hlt2 : k < K := by omega
        have hKm : K ≤ m := by omega
        rw [← hK] at hs ⊢
        have q1 : (k : Int) < (K : Int) := by omega
        have q2 : (u : Int) < (m : Int) := by omega
        have HSI : Hid (∃ F' D', Srch wo m es O v FB BB (.slice (some ⟨gf, 0, none⟩) K cf) F' D' k ∧ F'[k]? = some (u : Int) ∧ ∀ y ∈ L.take 0, O y.toNat = true → y ∈ F') := ⟨F, D, hs.out, HU.out, by simp⟩
        have hgfl : gf < wo.heap.size := block_lt_of_cell cF
        clear hL hJ hK hu hin aa hs HU hlen
        go_wp2
        go_loopg [8, 41] J (fun Gh fv i wz => ∃ (c : Nat), c ≤ J ∧ J - c ≤ Gh ∧ i = .int .i64 c ∧ Hid (∃ F' D', Srch wz m es O v FB BB fv F' D' k ∧ F'[k]? = some (u : Int) ∧ ∀ y ∈ L.take c, O y.toNat = true → y ∈ F') ∧ Below w.heap.size w wz ∧ BB ≤ wz.heap.size)
        case atStart => exact ⟨0, Nat.zero_le _, by omega, rfl, HSI, hbo, hszo⟩
        case round =>
          obtain ⟨c, hc, hGh, rfl, hsr, hbr, hszr⟩ := hrel
          by_cases hlc : c < J
          · have hcl : c < L.length := by rw [← HJ.out]; exact hlc
            have hadj : Adj es (u : Int) L[c] := (nbL_right (n := m) HR.out).1 (by rw [← HL.out]; exact List.getElem_mem hcl)
            have hyr := (hadj.in HR.out).2.1
            obtain ⟨y, hy⟩ : ∃ y : Nat, (y : Int) = L[c] := ⟨L[c].toNat, by omega⟩
            rw [← hy] at hadj hyr
            have hym : y < m := by omega
            obtain ⟨ga, oa, rfl, hga, hca⟩ := HIA.out wr hbr (by omega)
            have d0 := hca c hcl
            rw [← hy] at d0
            obtain ⟨F', D', hS, hF', hall⟩ := hsr.out
            have HALL := hid hall
            have HSR := hid hS
            have hkF : k < F'.length := by
              by_cases e : k < F'.length
              · exact e
              · rw [List.getElem?_eq_none (by omega)] at hF'; cases hF'
            have hFk : F'[k] = (u : Int) := by rw [List.getElem?_eq_getElem hkF] at hF'; exact Option.some.inj hF'
            have HFK : Hid (∃ h : k < F'.length, F'[k] = (u : Int)) := ⟨hkF, hFk⟩
            have HF' := hid hF'
            obtain ⟨o1, _⟩ := (HOP.out wr hbr).2 y hym
            obtain ⟨r1, r1f⟩ := hS.far.2 y hym
            obtain ⟨r2, _⟩ := hS.far.2 u hum
            obtain ⟨oy, hoy⟩ := ex_eq (O y)
            obtain ⟨dy, hdy⟩ := ex_eq (D' y)
            obtain ⟨du, hdu⟩ := ex_eq (D' u)
            rw [← hoy] at o1
            rw [← hdy] at r1
            rw [← hdu] at r2
            have HOY := hid hoy
            have HDY := hid hdy
            have HDU := hid hdu
            have HY := hid hy
            have HADJ := hid hadj
            have HTK : Hid (∀ FF : List Int, (∀ z ∈ F', z ∈ FF) → (O y = true → (y : Int) ∈ FF) → ∀ z ∈ L.take (c + 1), O z.toNat = true → z ∈ FF) := fun FF h1 h2 z hz hO => by
              rw [List.take_append_getElem hcl |>.symm] at hz
              rcases List.mem_append.1 hz with hz | hz
              · exact h1 z (HALL.out z hz hO)
              · simp at hz
                rw [← HY.out] at hz
                subst hz
                exact h2 (by simpa using hO)
            have q3 : (c : Int) < (J : Int) := by omega
            have q4 : (y : Int) < (m : Int) := by omega
            have hlen' := hS.len
            have hdur : 0 ≤ du ∧ du ≤ 1000 := by
              have h1 := hS.bf.le k hkF
              simp only [hFk, Int.toNat_natCast] at h1
              have h2 := hS.bf.mem (u : Int) (by omega) (by omega)
              simp only [Int.toNat_natCast] at h2
              rw [hdu]
              rcases h2 with h2 | h2
              · exact ⟨h2.2, by omega⟩
              · exact absurd (by rw [← hFk]; exact List.getElem_mem hkF) h2.1
            obtain ⟨gf', cf', hfv, hgf', cF'⟩ := hS.at hkF
            subst hfv
            rw [hFk] at cF'
            obtain ⟨K', hK'⟩ := ex_eq F'.length
            rw [← hK'] at HSR hlen' hkF ⊢
            have HK' := hid hK'
            clear hy hadj hyr hca hS hF' hall hsr hFk hoy hdy hdu hK'
            cases oy with
            | false =>
              have HNX : Hid (∃ F' D', Srch wr m es O v FB BB (.slice (some ⟨gf', 0, none⟩) K' cf') F' D' k ∧ F'[k]? = some (u : Int) ∧ ∀ z ∈ L.take (c + 1), O z.toNat = true → z ∈ F') := ⟨F', D', HSR.out, HF'.out, HTK.out F' (fun z h => h) (fun h => by rw [← HOY.out] at h; cases h)⟩
              clear HTK HALL HSR HFK HF' HDY HDU HY HADJ HOY
              go_wp2
              go_roundg (J - (c + 1))
              case measure => omega
              case rel => exact ⟨c + 1, by omega, Nat.le_refl _, by go_num, HNX, hbr, hszr⟩
            | true =>
              by_cases hdn : 0 ≤ dy
              · have e1 : ¬ dy < 0 := by omega
                have e2 : decide (dy < 0) = false := decide_eq_false e1
                have HNX : Hid (∃ F' D', Srch wr m es O v FB BB (.slice (some ⟨gf', 0, none⟩) K' cf') F' D' k ∧ F'[k]? = some (u : Int) ∧ ∀ z ∈ L.take (c + 1), O z.toNat = true → z ∈ F') := ⟨F', D', HSR.out, HF'.out, HTK.out F' (fun z h => h) (fun _ => by
                  rcases HSR.out.bf.mem (y : Int) (by omega) q4 with h | h
                  · exact h.1
                  · have := h.2; simp at this; rw [← HDY.out] at this; omega)⟩
                clear HTK HALL HSR HFK HF' HDY HDU HY HADJ HOY
                go_wp2
                go_roundg (J - (c + 1))
                case measure => omega
                case rel => exact ⟨c + 1, by omega, Nat.le_refl _, by go_num, HNX, hbr, hszr⟩
              · have e1 : dy < 0 := by omega
                have e2 : decide (dy < 0) = true := decide_eq_true e1
                have e3 : IntKind.i64.wrap (du + 1) = du + 1 := by simp [IntKind.wrap, IntKind.bits, IntKind.signed]; omega
                have hdy1 : D' y = -1 := by
                  rcases HSR.out.bf.mem (y : Int) (by omega) q4 with h | h
                  · have := h.2; simp at this; rw [← HDY.out] at this; omega
                  · have := h.2; simp at this; exact this
                obtain ⟨W2, hW2⟩ := ex_eq (wr.setCell ⟨FB, y, none⟩ (.int .i64 (du + 1)))
                have hkp2 : KeptBut (fun x => x = FB) wr W2 := by rw [hW2]; exact kept_set wr ⟨FB, y, none⟩ _
                have hsW2 : W2.heap.size = wr.heap.size := by rw [hW2]; simp
                have hFBB := HSR.out.lt
                have HOW : Hid ((W2.alloc (.cells #[.int .i64 y] 3)).ownsRow BB 3 1 (.slice (some ⟨gf', 0, none⟩) K' cf') K' (F'.map (Value.int .i64))) := by
                  show World.ownsRow _ _ _ _ _ _ _
                  have := HSR.out.own
                  rw [← HK'.out] at this
                  refine World.ownsRow.alloc (own_kept this hkp2 (fun g0 h0 e => ?_)) _
                  obtain rfl : gf' = g0 := by simpa [Value.ownBlock] using h0
                  omega
                have HNW : Hid (∀ p, some (⟨W2.heap.size, 0, none⟩ : Addr) = some p → ∀ j u, [Value.int .i64 (y : Int)][j]? = some u → (W2.alloc (.cells #[.int .i64 y] 3)).cell? (p.add j) = some u) := news_oneI
                have HON : Hid (∀ v ∈ [Value.int .i64 (y : Int)], v.oneCell' = true) := fun v hv => by simp at hv; rw [hv]; rfl
                have H63 : Hid (K' + 1 ≤ maxLen) := by show K' + 1 ≤ maxLen; unfold maxLen; omega
                have HBS : Hid (BB ≤ (W2.alloc (.cells #[.int .i64 y] 3)).heap.size) := by show BB ≤ _; simp; omega
                have HKP : Hid (∀ w4, (W2.alloc (.cells #[.int .i64 y] 3)).grownBy w4 (Value.slice (some ⟨gf', 0, none⟩) K' cf').ownBlock → Below w.heap.size w w4 ∧ BB ≤ w4.heap.size) := fun w4 hg => by
                  refine ⟨Below.grown (show Below w.heap.size w (W2.alloc _) from ?_) hg (by simp; omega) (fun j hj => by obtain rfl : gf' = j := by { simpa [Value.ownBlock] using hj }; omega), Nat.le_trans HBS.out hg.size⟩
                  rw [hW2]
                  exact (hbr.setCell (p := ⟨FB, y, none⟩) (by simp; omega) _).alloc (by simp; exact hbr.size) _
                have HSP : Hid (∀ w4 v4, w4.ownsRow BB 3 1 v4 (K' + 1) (F'.map (Value.int .i64) ++ [.int .i64 (y : Int)]) → (W2.alloc (.cells #[.int .i64 y] 3)).grownBy w4 (Value.slice (some ⟨gf', 0, none⟩) K' cf').ownBlock → ∃ F' D', Srch w4 m es O v FB BB v4 F' D' k ∧ F'[k]? = some (u : Int) ∧ ∀ z ∈ L.take (c + 1), O z.toNat = true → z ∈ F') := fun w4 v4 h1 h2 => by
                  obtain ⟨hkF, hFk⟩ := HFK.out
                  rw [hW2, HDU.out] at h2
                  rw [HK'.out] at h1
                  refine ⟨_, _, HSR.out.put hkF hFk HADJ.out hym HOY.out.symm hdy1 h1 h2, ?_, HTK.out _ (fun z h => List.mem_append_left _ h) (fun _ => by simp)⟩
                  rw [List.getElem?_append_left hkF]
                  exact HF'.out
                have HW2 := hid hW2
                clear hW2 HTK HALL HSR HFK HF' HDY HDU HY HADJ HOY hkp2 hsW2 hdy1 HK'
                go_upto_region 14 with fail
                rw [← HW2.out]
                clear HW2
                go_wp2_with (at_builtin; refine wpList_append_any _ rfl _ _ 33 rfl BB 3 i0 _ 1 8 Tryz.underlying33 hi hz0 hz1 hz2 rfl (by decide) _ _ _ rfl HOW.out (some ⟨W2.heap.size, 0, none⟩) 1 1 [.int .i64 y] rfl (fun h => by cases h) rfl HNW.out HON.out H63.out ?c4 HBS.out ?_)
                case c4 => omega
                intro v4 w4 hown4 hgrow _
                have HNX := hid (HSP.out w4 v4 hown4 hgrow)
                obtain ⟨hb4, hsz4⟩ := HKP.out w4 hgrow
                clear hown4 hgrow HKP HSP HBS H63 HON HNW HOW
                go_wp2
                go_roundg (J - (c + 1))
                case measure => omega
                case rel => exact ⟨c + 1, by omega, Nat.le_refl _, by go_num, HNX, hb4, hsz4⟩
          · obtain rfl : c = J := by omega
            obtain ⟨F', D', hS, hF', hall⟩ := hsr.out
            have hkF : k < F'.length := by
              by_cases e : k < F'.length
              · exact e
              · rw [List.getElem?_eq_none (by omega)] at hF'; cases hF'
            have hFk : F'[k] = (u : Int) := by rw [List.getElem?_eq_getElem hkF] at hF'; exact Option.some.inj hF'
            have hlen' := hS.len
            have HNX : Hid (Srch wr m es O v FB BB u8 F' D' (k + 1)) := hS.mono (Below.refl _ _) (hS.bf.next hkF (fun z ha hO => by
              rw [hFk] at ha
              have : z ∈ L := by rw [HL.out]; exact (nbL_right (n := m) HR.out).2 ha
              exact hall z (by rw [HJ.out, List.take_length]; exact this) hO))
            have hkm : k < m := by omega
            clear hS hF' hall hsr hFk
            go_wp2
            go_roundw
            case rel => exact ⟨F', D', k + 1, by omega, by go_num, HNX, hbr, hszr⟩
            case measure => simp [RowKit.intOf]; omega
      · obtain rfl : k = F.length := by omega
        have hbf := hs.out.bf.lev HR.out
        have HLE : Hid (∀ j, j < m → D j ≤ 1000) := fun j hj => by
          rcases hs.out.bf.mem (j : Int) (by omega) (by omega) with h | h
          · obtain ⟨i, hi', e⟩ := List.getElem_of_mem h.1
            have h1 := hs.out.bf.le i hi'
            rw [e] at h1
            simp only [Int.toNat_natCast] at h1
            omega
          · have := h.2
            simp only [Int.toNat_natCast] at this
            omega
        have HLV := hid hbf
        have HFR := hid hs.out.far
        obtain ⟨af, cf, rfl, hsl⟩ := sl_own hs.out.own
        obtain ⟨K, hK⟩ := ex_eq F.length
        rw [← hK] at hs ⊢
        clear hbf hs hK
        go_wp2
        go_ret
        exact ⟨_, rfl, FB, D, rfl, by omega, HFR.out, hbo, HLE.out, Or.inr ⟨HOV.out.symm, HLV.out⟩⟩
end Go.Proofs.YtplhpinaadgkkaaGreat
namespace Go.Proofs.YtplhpinaadgkkaaGreat
open Go.RowKit Go.Lib

set_option maxHeartbeats 400000 in
theorem closed_any (out bo bh x : Nat) (heir : Int) (w : World) (hx : x ≤ 1000000) (ho : w.cell? ⟨bo, 0, none⟩ = some (.int .i64 out)) (hh : w.cell? ⟨bh, 0, none⟩ = some (.int .i64 heir)) :
    Calls Tryz.prog 32 #[.int .i64 x, .pointer (some ⟨bo, 0, none⟩), .pointer (some ⟨bh, 0, none⟩)] w fun e w' => e = .returned (.int .i64 (fC out heir x)) ∧ w' = w := by
  by_cases h1 : x < out
  · have e1 : fC out heir x = x := by unfold fC; rw [if_pos (by omega)]
    rw [e1]
    have q1 : (x : Int) < (out : Int) := by omega
    clear e1
    go_enter Tryz.func32, Tryz.ntmps32
    go_wp2
    go_ret
    exact ⟨rfl, rfl⟩
  · by_cases h2 : x = out
    · subst h2
      have e1 : fC x heir x = heir := fC_out
      rw [e1]
      have q1 : ¬ (x : Int) < (x : Int) := by omega
      clear e1
      go_enter Tryz.func32, Tryz.ntmps32
      go_wp2
      go_ret
      exact ⟨rfl, rfl⟩
    · have e1 : fC out heir x = (x : Int) - 1 := by unfold fC; rw [if_neg (by omega), if_neg (by omega)]
      rw [e1]
      have q1 : ¬ (x : Int) < (out : Int) := by omega
      have q2 : ((x : Int) == (out : Int)) = false := beq_eq_false_iff_ne.2 (by omega)
      have q3 : ¬ (x : Int) = (out : Int) := by omega
      have q4 : IntKind.i64.wrap ((x : Int) - 1) = (x : Int) - 1 := by simp [IntKind.wrap, IntKind.bits, IntKind.signed]; omega
      clear e1
      go_enter Tryz.func32, Tryz.ntmps32
      go_wp2
      go_ret
      exact ⟨rfl, rfl⟩
/-- What is told of the edges under new numbers. -/
def RenS (N : Int) (f : Int → Int) (es : List (Int × Int)) (er N' : Int) (E : List (Int × Int)) : Prop := N' = nOf N er ∧ NormE N (renL f es) er E

end Go.Proofs.YtplhpinaadgkkaaGreat
namespace Go.Proofs.YtplhpinaadgkkaaGreat
open Go.RowKit Go.Lib

set_option maxHeartbeats 2000000 in
set_option maxRecDepth 100000 in
theorem ren_closed (n N : Int) (a : Option Addr) (cap : Nat) (es : List (Int × Int)) (f : Int → Int) (bo bh : Nat) (w : World) (hN : es.length ≤ 1000000) (hE : EAt w a es) (hIn : ∀ e ∈ es, (0 ≤ e.1 ∧ e.1 < n) ∧ (0 ≤ e.2 ∧ e.2 < n))
    (hF : ∀ X x, 0 ≤ x → x < n → Below w.heap.size w X → Calls Tryz.prog 32 #[.int .i64 x, .pointer (some ⟨bo, 0, none⟩), .pointer (some ⟨bh, 0, none⟩)] X fun e w' => e = .returned (.int .i64 (f x)) ∧ w' = X) :
    Calls Tryz.prog 15 #[.agg #[.int .i64 n, .slice a es.length cap], .agg #[.int .i64 N, .func (.func 32) #[] #[.pointer (some ⟨bo, 0, none⟩), .pointer (some ⟨bh, 0, none⟩)]]] w fun e w' => ∃ u, e = .returned u ∧ SubTold (RenS N f es) w w' u := by
  obtain ⟨i0, hi, hz0, hz1, hz2⟩ := info_parts Tryz.info41
  obtain ⟨K, hK⟩ := ex_eq es.length
  rw [← hK] at hN ⊢
  have HK := hid hK
  obtain ⟨W0, hW0⟩ := ex_eq (((w.alloc (.cells #[.int .i64 n, .slice a K cap] 26)).alloc (.cells #[.int .i64 N, .func (.func 32) #[] #[.pointer (some ⟨bo, 0, none⟩), .pointer (some ⟨bh, 0, none⟩)]] 49)).alloc (.cells #[.int .i64 0, .slice none 0 0] 26))
  have hs0 : W0.heap.size = w.heap.size + 1 + 1 + 1 := by rw [hW0]; simp
  have HB0 : Hid (Below w.heap.size w W0) := by
    show Below _ _ _
    rw [hW0]; exact ((((Below.refl _ w).alloc (Nat.le_refl _) _).alloc (by simp) _).alloc (by simp; omega) _)
  have o2 : W0.heap[w.heap.size + 1 + 1]? = some (.cells #[.int .i64 0, .slice none 0 0] 26 (0, 0)) := by
    have h := heap_alloc_new ((w.alloc (.cells #[.int .i64 n, .slice a K cap] 26)).alloc (.cells #[.int .i64 N, .func (.func 32) #[] #[.pointer (some ⟨bo, 0, none⟩), .pointer (some ⟨bh, 0, none⟩)]] 49)) (.cells #[.int .i64 0, .slice none 0 0] 26)
    rw [← hW0] at h
    simpa using h
  have o1 : W0.heap[w.heap.size + 1]? = some (.cells #[.int .i64 N, .func (.func 32) #[] #[.pointer (some ⟨bo, 0, none⟩), .pointer (some ⟨bh, 0, none⟩)]] 49 (0, 0)) := by
    rw [hW0, alloc_at (by simp)]
    have h := heap_alloc_new (w.alloc (.cells #[.int .i64 n, .slice a K cap] 26)) (.cells #[.int .i64 N, .func (.func 32) #[] #[.pointer (some ⟨bo, 0, none⟩), .pointer (some ⟨bh, 0, none⟩)]] 49)
    simpa using h
  have o0 : W0.heap[w.heap.size]? = some (.cells #[.int .i64 n, .slice a K cap] 26 (0, 0)) := by
    rw [hW0, alloc_at (by simp; omega), alloc_at (by simp)]
    exact heap_alloc_new w _
  have HKEEP : Hid (∀ X, Below W0.heap.size W0 X → (X.cell? ⟨w.heap.size + 1, 0, none⟩ = some (.int .i64 N) ∧ X.cell? ⟨w.heap.size + 1, 1, none⟩ = some (.func (.func 32) #[] #[.pointer (some ⟨bo, 0, none⟩), .pointer (some ⟨bh, 0, none⟩)])) ∧ X.heap[w.heap.size + 1 + 1]? = some (.cells #[.int .i64 0, .slice none 0 0] 26 (0, 0)) ∧ Below w.heap.size w X) := fun X hX => by
    have p1 := (hX.block _ (by omega)).trans o1
    have p2 := (hX.block _ (by omega)).trans o2
    exact ⟨⟨cell_of_heap p1 0, cell_of_heap p1 1⟩, p2, HB0.out.trans (hX.mono (by omega))⟩
  have HE0 : Hid (EAt W0 a es) := hE.below HB0.out
  have HIN := hid hIn
  have HF := hid hF
  have HW0 := hid hW0
  have c0 := cell_of_heap o0 0
  have c1 := cell_of_heap o0 1
  clear hW0 hE hK hIn hF o1 o2
  go_enter Tryz.func15, Tryz.ntmps15
  go_upto_region 2 with fail
  rw [← HW0.out]
  clear HW0
  go_wp2
  clear c0 c1 o0
  go_loopw [6, 14] (fun v i wr => ∃ k : Nat, k ≤ K ∧ i = .int .i64 k ∧ Hid (wr.ownsRow W0.heap.size 41 2 v (renL f (es.take k)).length (cellsE (renL f (es.take k)))) ∧ Below W0.heap.size W0 wr) (fun _ i _ => K - (RowKit.intOf i).toNat)
  case atStart => exact ⟨0, Nat.zero_le _, rfl, World.ownsRow_nil _ _ _ _, Below.refl _ _⟩
  case round =>
    obtain ⟨k, hk, rfl, hown, hbr⟩ := hrel
    by_cases hlt : k < K
    · have hkr : k < es.length := by rw [← HK.out]; exact hlt
      obtain ⟨g, off, rfl, hg, hcs⟩ := HE0.out.at hkr
      obtain ⟨e1, he1⟩ := ex_eq es[k].1
      obtain ⟨e2, he2⟩ := ex_eq es[k].2
      have d := hcs wr hbr k hkr
      rw [← he1, ← he2] at d
      obtain ⟨d0, d1⟩ := d
      have hin := HIN.out es[k] (List.getElem_mem _)
      rw [← he1, ← he2] at hin
      obtain ⟨V, hV⟩ := ex_eq (wr.alloc (.cells #[.int .i64 e1, .int .i64 e2] 41))
      have hbV : Below W0.heap.size W0 V := by rw [hV]; exact hbr.alloc hbr.size _
      have hVo : V.heap[wr.heap.size]? = some (.cells #[.int .i64 e1, .int .i64 e2] 41 (0, 0)) := by rw [hV]; exact heap_alloc_new _ _
      have HOV : Hid (V.ownsRow W0.heap.size 41 2 u6 (renL f (es.take k)).length (cellsE (renL f (es.take k)))) := by
        show World.ownsRow _ _ _ _ _ _ _
        rw [hV]; exact hown.out.alloc _
      obtain ⟨x, hx⟩ := ex_eq (f e1)
      obtain ⟨y, hy⟩ := ex_eq (f e2)
      have HC1 : Hid (∀ X, Below w.heap.size w X → Calls Tryz.prog 32 #[.int .i64 e1, .pointer (some ⟨bo, 0, none⟩), .pointer (some ⟨bh, 0, none⟩)] X fun e w' => e = .returned (.int .i64 x) ∧ w' = X) := fun X hX => by rw [hx]; exact HF.out X e1 hin.1.1 hin.1.2 hX
      have HC2 : Hid (∀ X, Below w.heap.size w X → Calls Tryz.prog 32 #[.int .i64 e2, .pointer (some ⟨bo, 0, none⟩), .pointer (some ⟨bh, 0, none⟩)] X fun e w' => e = .returned (.int .i64 y) ∧ w' = X) := fun X hX => by rw [hy]; exact HF.out X e2 hin.2.1 hin.2.2 hX
      have HNX : Hid (renL f (es.take (k + 1)) = renL f (es.take k) ++ (if x ≠ -1 ∧ y ≠ -1 then [(x, y)] else [])) := by
        show _ = _
        rw [renL_next hkr, hx, hy, he1, he2]
      have hlen : (renL f (es.take k)).length ≤ k := Nat.le_trans (renL_len _ _) (by rw [List.length_take]; omega)
      have r0 := cell_of_heap hVo 0
      have r1 := cell_of_heap hVo 1
      obtain ⟨⟨s0, s1⟩, _, hbwV⟩ := HKEEP.out V hbV
      have HBD : Hid (∀ q, Below w.heap.size w (V.drewN q)) := fun q => below_drewN hbwV q
      have HV := hid hV
      clear hV hcs he1 he2 hx hy hVo hown
      go_upto_region 5 with fail
      rw [← HV.out]
      clear HV d0 d1
      go_quiet (first | (go_at_call_of 32 (Value.int .i64 e1); refine Calls.quiet_of_same (HC1.out _ (HBD.out _))) | (go_at_call_of 32 (Value.int .i64 e2); refine Calls.quiet_of_same (HC2.out _ (HBD.out _))))
      obtain ⟨V2, hV2⟩ := ex_eq (V.drewN nq)
      rw [← hV2]
      have hb2 : Below W0.heap.size W0 V2 := by rw [hV2]; exact below_drewN hbV nq
      have hown2 : V2.ownsRow W0.heap.size 41 2 u6 (renL f (es.take k)).length (cellsE (renL f (es.take k))) := by rw [hV2]; exact own_below HOV.out (below_drewN (Below.refl _ V) nq)
      have hs2 := hb2.size
      obtain ⟨P, hP⟩ := ex_eq (renL f (es.take k))
      rw [← hP] at hlen hown2 HNX
      clear hV2 r0 r1 s0 s1 HC1 HC2 HBD hbV hbwV HOV hP hbr
      by_cases hg1 : x ≠ -1 ∧ y ≠ -1
      · obtain ⟨hx1, hy1⟩ := hg1
        have b1 : (x == -1) = false := beq_eq_false_iff_ne.2 hx1
        have b2 : (y == -1) = false := beq_eq_false_iff_ne.2 hy1
        have b3 : (x != -1) = true := by simp [hx1]
        have b4 : (y != -1) = true := by simp [hy1]
        have b5 : ¬ x = -1 := hx1
        have b6 : ¬ y = -1 := hy1
        clear hx1 hy1
        have HNX2 : Hid (renL f (es.take (k + 1)) = P ++ [(x, y)]) := by
          show _ = _
          rw [HNX.out, if_pos ⟨b5, b6⟩]
        clear HNX
        go_wp2_with (at_builtin; refine wpList_append_own _ rfl _ _ 22 rfl W0.heap.size 41 i0 _ 2 16 Tryz.underlying22 hi hz0 hz1 hz2 rfl (by decide) _ _ _ rfl (hown2.alloc _) _ 1 1 [.int .i64 x, .int .i64 y] rfl rfl ?c1 ?c2 ?c3 ?c4 ?c5 ?_)
        case c1 => exact cells_two (heap_alloc_new _ _)
        case c2 =>
          intro u hu
          simp at hu
          rcases hu with rfl | rfl <;> rfl
        case c3 => unfold maxLen; omega
        case c4 => omega
        case c5 => simp; omega
        intro v' w4 hown4 hgrow _
        have hb4 : Below W0.heap.size W0 w4 := Below.grown (hb2.alloc hs2 _) hgrow (by simp; omega) (fun j hj => (hown2.lt j hj).1)
        have HO : Hid (w4.ownsRow W0.heap.size 41 2 v' (renL f (es.take (k + 1))).length (cellsE (renL f (es.take (k + 1))))) := by
          show w4.ownsRow W0.heap.size 41 2 v' (renL f (es.take (k + 1))).length (cellsE (renL f (es.take (k + 1))))
          rw [HNX2.out, cellsE_append, List.length_append]
          first | exact hown4 | (rw [hs0]; exact hown4)
        clear hgrow hown2 hown4 hi hz0 hz1 hz2
        go_wp2
        go_roundw
        case rel => exact ⟨k + 1, by omega, by go_num, HO, hb4⟩
        case measure => simp [RowKit.intOf]; omega
      · have HO : Hid (V2.ownsRow W0.heap.size 41 2 u6 (renL f (es.take (k + 1))).length (cellsE (renL f (es.take (k + 1))))) := by
          show World.ownsRow _ _ _ _ _ _ _
          rw [HNX.out, if_neg hg1, List.append_nil]; exact hown2
        clear hown2 HNX hi hz0 hz1 hz2
        by_cases hx1 : x = -1
        · subst hx1
          clear hg1
          go_wp2
          go_roundw
          case rel => exact ⟨k + 1, by omega, by go_num, HO, hb2⟩
          case measure => simp [RowKit.intOf]; omega
        · have hy1 : y = -1 := by
            by_cases e : y = -1
            · exact e
            · exact absurd ⟨hx1, e⟩ hg1
          subst hy1
          have b1 : (x == -1) = false := beq_eq_false_iff_ne.2 hx1
          clear hg1
          go_wp2
          go_roundw
          case rel => exact ⟨k + 1, by omega, by go_num, HO, hb2⟩
          case measure => simp [RowKit.intOf]; omega
    · obtain rfl : k = K := by omega
      have htk : es.take k = es := by rw [HK.out, List.take_length]
      rw [htk] at hown
      obtain ⟨a1, cap1, rfl, hsl, hea⟩ := eat_own hown.out
      have hll := renL_len f es
      rw [← HK.out] at hll
      obtain ⟨M, hM⟩ := ex_eq (renL f es).length
      have CN : Hid (Calls Tryz.prog 31 #[.int .i64 N, .slice a1 M cap1] wr fun e w' => ∃ er es' a' cap', e = .returned (.tuple #[.agg #[.int .i64 (nOf N er), .slice a' es'.length cap'], .int .i64 er]) ∧ NormE N (renL f es) er es' ∧ Sl a' cap' es'.length ∧ EAt w' a' es' ∧ Below wr.heap.size wr w') := by
        rw [hM]; exact normal_any N a1 cap1 (renL f es) wr (by omega) hea
      rw [← hM]
      obtain ⟨⟨s0, s1⟩, _, _⟩ := HKEEP.out wr hbr
      clear hM hsl hea hown hll hi hz0 hz1 hz2 htk HIN HF
      go_wp2_with fail
      refine CN.out.mono ?_
      rintro e w2 ⟨er, E, a2, c2, rfl, hnm, hsl2, hea2, hb2⟩
      obtain ⟨_, o2, hbw2⟩ := HKEEP.out w2 (hbr.trans (hb2.mono hbr.size))
      have z0 := cell_of_heap o2 0
      have z1 := cell_of_heap o2 1
      have zf0 := frozen_of_heap o2 0
      have zf1 := frozen_of_heap o2 1
      have HNE := hid (eat_off_box o2 hea2)
      obtain ⟨N2, hN2⟩ := ex_eq (nOf N er)
      rw [← hN2]
      have HN2 := hid hN2
      have HNM := hid hnm
      have HSL2 := hid hsl2
      have HEA2 := hid hea2
      have HBW := hid hbw2
      clear hN2 hnm hsl2 hea2 hb2 hbw2 o2 s0 s1 CN HKEEP
      go_wp2
      refine bodyPost_ret (v := .tuple #[.agg #[.int .i64 N2, .slice a2 E.length c2], .int .i64 er]) ?_ rfl ⟨_, rfl, er, N2, E, a2, c2, rfl, ⟨HN2.out, HNM.out⟩, HSL2.out, ?_, ?_⟩
      · rw [results_cell_tmp rfl]
        go_simp
      · have hne : ∀ g off, 0 < E.length → a2 = some ⟨g, off, none⟩ → g ≠ w.heap.size + 1 + 1 := HNE.out
        exact (HEA2.out.set (p := ⟨w.heap.size + 1 + 1, 0, none⟩) hne _).set (p := ⟨w.heap.size + 1 + 1, 1, none⟩) hne _
      · exact (HBW.out.setCell (p := ⟨w.heap.size + 1 + 1, 0, none⟩) (by simp; omega) _).setCell (p := ⟨w.heap.size + 1 + 1, 1, none⟩) (by simp; omega) _
end Go.Proofs.YtplhpinaadgkkaaGreat
namespace Go.Proofs.YtplhpinaadgkkaaGreat
open Go.RowKit Go.Lib

def esS : List (Int × Int) := [(0, 1), (0, 3), (1, 2), (2, 3)]
/-- What lies in memory while the small case goes on. -/
structure ShW (w W : World) (B : Nat) (a1 a2 : Option Addr) : Prop where
  gc : GC W (B + 1) 4 (some ⟨B, 0, none⟩) 4 4 esS
  r1 : IAt W a1 [0, 3, 2]
  r2 : IAt W a2 [0, 2, 1, 3]
  bel : Below B w W
  le : B ≤ W.heap.size
theorem ShW.on {w W X : World} {B : Nat} {a1 a2 : Option Addr} (h : ShW w W B a1 a2) (hb : Below W.heap.size W X) : ShW w X B a1 a2 := ⟨h.gc.on hb, h.r1.below hb, h.r2.below hb, h.bel.trans (hb.mono h.le), Nat.le_trans h.le hb.size⟩
theorem below_one (W : World) (o : Obj) : Below W.heap.size W (W.alloc o) := (Below.refl _ _).alloc (Nat.le_refl _) o

end Go.Proofs.YtplhpinaadgkkaaGreat
