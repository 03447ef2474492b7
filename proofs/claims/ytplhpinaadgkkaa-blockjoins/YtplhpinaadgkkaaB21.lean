/-
  The program's distances: a search, one vertex behind the other.
  The small case that the laws of layer 5 begin with answers true.
  The program's Delete and Contract keep their contracts.
  The program's blocks and cuts of a graph keep their contract (layer 7).
-/
import Derived.Test.YtplhpinaadgkkaaB14
import Derived.Test.YtplhpinaadgkkaaB20
import Derived.Test.YtplhpinaadgkkaaB08
import Derived.Test.YtplhpinaadgkkaaB12
import Derived.Test.YtplhpinaadgkkaaB10
import Derived.Test.YtplhpinaadgkkaaB04
import Derived.Test.YtplhpinaadgkkaaB05
import Derived.Test.YtplhpinaadgkkaaB13
import Derived.Test.YtplhpinaadgkkaaB18
import Derived.Test.YtplhpinaadgkkaaB19
namespace Go.Proofs.Ytplhpinaadgkkaa
open Go.RowKit Go.Lib

theorem news_oneI {w : World} {x : Value} {t : TypeId} : ∀ p, some (⟨w.heap.size, 0, none⟩ : Addr) = some p → ∀ j u, [x][j]? = some u → (w.alloc (.cells #[x] t)).cell? (p.add j) = some u := fun p hp j u hj => by
  cases hp
  cases j with
  | zero => simp at hj; subst hj; rw [add_at]; exact cell_of_heap (heap_alloc_new w _) 0
  | succ j => simp at hj
theorem own_one (w : World) (base : Nat) (x : Value) (t : TypeId) (hb : base ≤ w.heap.size) : (w.alloc (.cells #[x] t)).ownsRow base t 1 (.slice (some ⟨w.heap.size, 0, none⟩) 1 1) 1 [x] :=
  ⟨rfl, Or.inr ⟨w.heap.size, 1, #[x], rfl, hb, heap_alloc_new _ _, Nat.le_refl _, by unfold maxLen; omega, rfl, rfl⟩⟩
theorem Row1.belowW {w w' : World} {g n : Nat} {c : Nat → Int} (h : Row1 w g n c) (hb : Below w.heap.size w w') : Row1 w' g n c := h.kept (KeptBut.of_whole (fun _ => False) hb) (fun e => e)
/-- What distances tells. -/
def DistIs (m : Nat) (es : List (Int × Int)) (O : Nat → Bool) (v : Nat) (w w' : World) (u : Value) : Prop :=
  ∃ (F : Nat) (D : Nat → Int), u = .slice (some ⟨F, 0, none⟩) m m ∧ w.heap.size ≤ F ∧ Row1 w' F m D ∧ Below w.heap.size w w' ∧ (∀ j, j < m → D j ≤ 1000) ∧
    ((O v = false ∧ ∀ j, j < m → D j = -1) ∨ (O v = true ∧ Lev m es (fun x => O x.toNat = true) v (fun x => D x.toNat)))
/-- The search in memory: what is found, in a row of its own, and how far off it lies. -/
structure Srch (w : World) (m : Nat) (es : List (Int × Int)) (O : Nat → Bool) (v FB B : Nat) (fv : Value) (F : List Int) (D : Nat → Int) (i : Nat) : Prop where
  own : w.ownsRow B 3 1 fv F.length (F.map (Value.int .i64))
  far : Row1 w FB m D
  bf : Bf m es (fun x => O x.toNat = true) v F (fun x => D x.toNat) i
  lt : FB < B
theorem Srch.len {w : World} {m : Nat} {es : List (Int × Int)} {O : Nat → Bool} {v FB B : Nat} {fv : Value} {F : List Int} {D : Nat → Int} {i : Nat} (h : Srch w m es O v FB B fv F D i) : F.length ≤ m := by
  have := len_le_subI (a := F) (b := (List.range m).map (fun j : Nat => (j : Int))) h.bf.nd (fun x hx => by
    have := (h.bf.inr x hx).1
    exact List.mem_map.2 ⟨x.toNat, by simp; omega, by omega⟩)
  simpa using this
theorem own_at {w : World} {B : Nat} {fv : Value} {F : List Int} (h : w.ownsRow B 3 1 fv F.length (F.map (Value.int .i64))) {j : Nat} (hj : j < F.length) : ∃ g cap, fv = .slice (some ⟨g, 0, none⟩) F.length cap ∧ B ≤ g ∧ w.cell? ⟨g, j, none⟩ = some (.int .i64 F[j]) := by
  rcases h.2 with ⟨_, h0⟩ | ⟨g, cap, cur, hv, hg, hgb, _⟩
  · simp at h0; rw [h0] at hj; simp at hj
  · refine ⟨g, cap, hv, hg, ?_⟩
    have := h.cells (g := g) (by rw [hv]; rfl) j (.int .i64 F[j]) (by rw [List.getElem?_map, List.getElem?_eq_getElem hj]; rfl)
    rw [add_at, Nat.zero_add] at this
    exact this
theorem Srch.at {w : World} {m : Nat} {es : List (Int × Int)} {O : Nat → Bool} {v FB B : Nat} {fv : Value} {F : List Int} {D : Nat → Int} {i : Nat} (h : Srch w m es O v FB B fv F D i) {j : Nat} (hj : j < F.length) : ∃ g cap, fv = .slice (some ⟨g, 0, none⟩) F.length cap ∧ B ≤ g ∧ w.cell? ⟨g, j, none⟩ = some (.int .i64 F[j]) := by
  rcases h.own.2 with ⟨_, h0⟩ | ⟨g, cap, cur, hv, hg, hgb, _⟩
  · simp at h0; rw [h0] at hj; simp at hj
  · refine ⟨g, cap, hv, hg, ?_⟩
    have := h.own.cells (g := g) (by rw [hv]; rfl) j (.int .i64 F[j]) (by rw [List.getElem?_map, List.getElem?_eq_getElem hj]; rfl)
    rw [add_at, Nat.zero_add] at this
    exact this
/-- One more is found: its distance is set, then it goes behind the others. -/
theorem Srch.put {w : World} {m : Nat} {es : List (Int × Int)} {O : Nat → Bool} {v FB B : Nat} {fv : Value} {F : List Int} {D : Nat → Int} {i : Nat} (h : Srch w m es O v FB B fv F D i) (hi : i < F.length) {u y : Nat} (hu : F[i] = (u : Int)) (ha : Adj es u y) (hy : y < m) (hO : O y = true) (hn : D y = -1) {w4 : World} {o : Obj} {fv' : Value}
    (hown : w4.ownsRow B 3 1 fv' (F.length + 1) (F.map (Value.int .i64) ++ [.int .i64 (y : Int)])) (hg : ((w.setCell ⟨FB, y, none⟩ (.int .i64 (D u + 1))).alloc o).grownBy w4 fv.ownBlock) : Srch w4 m es O v FB B fv' (F ++ [(y : Int)]) (fun j => if j = y then D u + 1 else D j) i := by
  have hnm : (y : Int) ∉ F := by
    rcases h.bf.mem (y : Int) (by omega) (by omega) with e | e
    · have := e.2; simp at this; omega
    · exact e.1
  refine ⟨by simpa using hown, ?_, ?_, h.lt⟩
  · have h1 := (h.far.put (i := y) hy (D u + 1)).alloc o
    refine h1.kept (KeptBut.of_grown hg) (fun e => ?_)
    have := h.own.lt FB e.symm
    have := h.lt
    omega
  · have := h.bf.put hi (v := (y : Int)) (by rw [hu]; exact ha) (by omega) (by simpa using hO) hnm
    have e : (fun x : Int => if x = (y : Int) then D F[i].toNat + 1 else D x.toNat) = fun x : Int => if x = (y : Int) then D u + 1 else D x.toNat := by rw [hu]; rfl
    rw [e] at this
    exact this.congr (fun x h0 _ => by
      show (if x = (y : Int) then D u + 1 else D x.toNat) = (if x.toNat = y then D u + 1 else D x.toNat)
      by_cases e : x = (y : Int)
      · subst e; simp
      · rw [if_neg e, if_neg (by omega)])
theorem Srch.mono {w w' : World} {m : Nat} {es : List (Int × Int)} {O : Nat → Bool} {v FB B : Nat} {fv : Value} {F : List Int} {D : Nat → Int} {i i' : Nat} (h : Srch w m es O v FB B fv F D i) (hb : Below w.heap.size w w') (hbf : Bf m es (fun x => O x.toNat = true) v F (fun x => D x.toNat) i') : Srch w' m es O v FB B fv F D i' :=
  ⟨own_below h.own hb, h.far.belowW hb, hbf, h.lt⟩

set_option maxHeartbeats 4000000 in
set_option maxRecDepth 100000 in
theorem dist_any (g m : Nat) (es : List (Int × Int)) (v G : Nat) (O : Nat → Bool) (w : World) (hm : m ≤ 1000) (hR : RightG m es) (hv : v < m) (hnear : NearAt w g m es) (hop : RowB w G m O) :
    Calls Try.prog 46 #[.slice (some ⟨g, 0, none⟩) m m, .int .i64 v, .slice (some ⟨G, 0, none⟩) m m] w fun e w' => ∃ u, e = .returned u ∧ DistIs m es O v w w' u := by
  have hbA : Below w.heap.size w (w.alloc (.cells #[.int .i64 (-1)] 3)) := (Below.refl _ _).alloc (Nat.le_refl _) _
  have hsA : (w.alloc (.cells #[.int .i64 (-1)] 3)).heap.size = w.heap.size + 1 := by simp
  have HRP := hid (rep_int w.heap.size 0 1 (-1) m (w.alloc (.cells #[.int .i64 (-1)] 3)) hm (cell_of_heap (heap_alloc_new w _) 0))
  have HNE : Hid (∀ u, u < m → ∃ au cu, ∀ X, Below w.heap.size w X → X.cell? ⟨g, u, none⟩ = some (.slice au (nbL u es).length cu) ∧ IAt X au (nbL u es)) := fun u hu => by
    obtain ⟨au, cu, h1, h2, _⟩ := hnear.2 u hu
    exact ⟨au, cu, fun X hX => ⟨(hX.cell (p := ⟨g, u, none⟩) hnear.1).trans h1, h2.below hX⟩⟩
  have HOP : Hid (∀ X, Below w.heap.size w X → RowB X G m O) := fun X hX => hop.below hX
  have HR := hid hR
  clear hnear hop hR
  go_enter Try.func46, Try.ntmps46
  go_wp2_with fail
  refine HRP.out.mono ?_
  rintro e w1 ⟨FB, rfl, hFB, hrow0, hb1⟩
  rw [hsA] at hFB hb1
  have hbw : Below w.heap.size w w1 := hbA.trans (hb1.mono (by omega))
  have HRW := hid hrow0
  have hFlt : FB < w1.heap.size := hrow0.1
  obtain ⟨o0, _⟩ := (HOP.out w1 hbw).2 v hv
  obtain ⟨f0, f0f⟩ := hrow0.2 v hv
  obtain ⟨ov, hov⟩ := ex_eq (O v)
  rw [← hov] at o0
  have HOV := hid hov
  have q0 : (v : Int) < (m : Int) := by omega
  clear hrow0 HRP hb1 hbA hsA hov
  cases ov with
  | false =>
    go_wp2
    go_ret
    exact ⟨_, rfl, FB, _, rfl, by omega, HRW.out, hbw, (fun _ _ => by omega), Or.inl ⟨HOV.out.symm, fun _ _ => rfl⟩⟩
  | true =>
    obtain ⟨W1, hW1⟩ := ex_eq ((w1.setCell ⟨FB, v, none⟩ (.int .i64 0)).alloc (.cells #[.int .i64 v] 3))
    have hbW1 : Below w.heap.size w W1 := by rw [hW1]; exact (hbw.setCell (p := ⟨FB, v, none⟩) (by simp; omega) _).alloc (by simp; exact hbw.size) _
    have HS0 : Hid (Srch W1 m es O v FB w1.heap.size (.slice (some ⟨w1.heap.size, 0, none⟩) 1 1) [(v : Int)] (fun j => if j = v then 0 else -1) 0) := by
      refine ⟨?_, ?_, ?_, hFlt⟩
      · rw [hW1]
        have := own_one (w1.setCell ⟨FB, v, none⟩ (.int .i64 0)) w1.heap.size (.int .i64 v) 3 (by simp)
        simpa using this
      · rw [hW1]; exact (HRW.out.put hv 0).alloc _
      · refine (bf_start (b := (v : Int)) (by omega) (by simpa using HOV.out.symm)).congr (fun x h0 _ => ?_)
        show (if x = (v : Int) then (0 : Int) else -1) = (if x.toNat = v then 0 else -1)
        by_cases e : x = (v : Int)
        · subst e; simp
        · rw [if_neg e, if_neg (by omega)]
    obtain ⟨BB, hBB⟩ := ex_eq w1.heap.size
    have hsz1 : BB ≤ W1.heap.size := by rw [hBB, hW1]; simp
    rw [← hBB] at HS0
    have HW1 := hid hW1
    have HBB := hid hBB
    have hwB : w.heap.size ≤ BB := by rw [hBB]; exact hbw.size
    obtain ⟨i0, hi, hz0, hz1, hz2⟩ := info_parts Try.info3
    clear hW1 hBB HRW
    go_wp2
    rw [← HW1.out, ← HBB.out]
    clear HW1 HBB f0 f0f o0
    go_loopw [8, 9] (fun fv i wo => ∃ (F : List Int) (D : Nat → Int) (k : Nat), k ≤ F.length ∧ i = .int .i64 k ∧ Hid (Srch wo m es O v FB BB fv F D k) ∧ Below w.heap.size w wo ∧ BB ≤ wo.heap.size) (fun _ i _ => m + 1 - (RowKit.intOf i).toNat)
    case atStart => exact ⟨_, _, 0, by simp, rfl, HS0, hbW1, hsz1⟩
    case round =>
      rename World => wo
      obtain ⟨F, D, k, hk, rfl, hs, hbo, hszo⟩ := hrel
      have hlen := hs.out.len
      by_cases hlt : k < F.length
      · obtain ⟨gf, cf, rfl, hgf, cF⟩ := hs.out.at hlt
        have hin := (hs.out.bf.inr _ (List.getElem_mem hlt)).1
        obtain ⟨u, hu⟩ : ∃ u : Nat, (u : Int) = F[k] := ⟨F[k].toNat, by omega⟩
        rw [← hu] at cF hin
        have hum : u < m := by omega
        obtain ⟨au, cu, aa⟩ := HNE.out u hum
        obtain ⟨a1, _⟩ := aa wo hbo
        obtain ⟨L, hL⟩ := ex_eq (nbL (u : Int) es)
        rw [← hL] at a1 aa
        have hLl : L.length ≤ 1000000 := by rw [hL]; exact Nat.le_trans (nbL_len _ _) (by have := HR.out.2.2.1; omega)
        obtain ⟨J, hJ⟩ := ex_eq L.length
        obtain ⟨K, hK⟩ := ex_eq F.length
        rw [← hJ] at a1 hLl
        have HL := hid hL
        have HJ := hid hJ
        have HK := hid hK
        have HIA : Hid (∀ X, Below w.heap.size w X → IAt X au L) := fun X hX => (aa X hX).2
        have HU : Hid (F[k]? = some (u : Int)) := by show _ = _; rw [List.getElem?_eq_getElem hlt, hu]
        have hlt2 : k < K := by omega
        have hKm : K ≤ m := by omega
        rw [← hK] at hs ⊢
        have q1 : (k : Int) < (K : Int) := by omega
        have q2 : (u : Int) < (m : Int) := by omega
        have HSI : Hid (∃ F' D', Srch wo m es O v FB BB (.slice (some ⟨gf, 0, none⟩) K cf) F' D' k ∧ F'[k]? = some (u : Int) ∧ ∀ y ∈ L.take 0, O y.toNat = true → y ∈ F') := ⟨F, D, hs.out, HU.out, by simp⟩
        have hgfl : gf < wo.heap.size := block_lt_of_cell cF
        clear hL hJ hK hu hin aa hs HU hlen
        go_wp2
        go_loopg [8, 41] J (fun Gh fv i wz => ∃ (c : Nat), c ≤ J ∧ J - c ≤ Gh ∧ i = .int .i64 c ∧ Hid (∃ F' D', Srch wz m es O v FB BB fv F' D' k ∧ F'[k]? = some (u : Int) ∧ ∀ y ∈ L.take c, O y.toNat = true → y ∈ F') ∧ Below w.heap.size w wz ∧ BB ≤ wz.heap.size)
        case atStart => exact ⟨0, Nat.zero_le _, by omega, rfl, HSI, hbo, hszo⟩
        case round =>
          obtain ⟨c, hc, hGh, rfl, hsr, hbr, hszr⟩ := hrel
          by_cases hlc : c < J
          · have hcl : c < L.length := by rw [← HJ.out]; exact hlc
            have hadj : Adj es (u : Int) L[c] := (nbL_right (n := m) HR.out).1 (by rw [← HL.out]; exact List.getElem_mem hcl)
            have hyr := (hadj.in HR.out).2.1
            obtain ⟨y, hy⟩ : ∃ y : Nat, (y : Int) = L[c] := ⟨L[c].toNat, by omega⟩
            rw [← hy] at hadj hyr
            have hym : y < m := by omega
            obtain ⟨ga, oa, rfl, hga, hca⟩ := HIA.out wr hbr (by omega)
            have d0 := hca c hcl
            rw [← hy] at d0
            obtain ⟨F', D', hS, hF', hall⟩ := hsr.out
            have HALL := hid hall
            have HSR := hid hS
            have hkF : k < F'.length := by
              by_cases e : k < F'.length
              · exact e
              · rw [List.getElem?_eq_none (by omega)] at hF'; cases hF'
            have hFk : F'[k] = (u : Int) := by rw [List.getElem?_eq_getElem hkF] at hF'; exact Option.some.inj hF'
            have HFK : Hid (∃ h : k < F'.length, F'[k] = (u : Int)) := ⟨hkF, hFk⟩
            have HF' := hid hF'
            obtain ⟨o1, _⟩ := (HOP.out wr hbr).2 y hym
            obtain ⟨r1, r1f⟩ := hS.far.2 y hym
            obtain ⟨r2, _⟩ := hS.far.2 u hum
            obtain ⟨oy, hoy⟩ := ex_eq (O y)
            obtain ⟨dy, hdy⟩ := ex_eq (D' y)
            obtain ⟨du, hdu⟩ := ex_eq (D' u)
            rw [← hoy] at o1
            rw [← hdy] at r1
            rw [← hdu] at r2
            have HOY := hid hoy
            have HDY := hid hdy
            have HDU := hid hdu
            have HY := hid hy
            have HADJ := hid hadj
            have HTK : Hid (∀ FF : List Int, (∀ z ∈ F', z ∈ FF) → (O y = true → (y : Int) ∈ FF) → ∀ z ∈ L.take (c + 1), O z.toNat = true → z ∈ FF) := fun FF h1 h2 z hz hO => by
              rw [List.take_append_getElem hcl |>.symm] at hz
              rcases List.mem_append.1 hz with hz | hz
              · exact h1 z (HALL.out z hz hO)
              · simp at hz
                rw [← HY.out] at hz
                subst hz
                exact h2 (by simpa using hO)
            have q3 : (c : Int) < (J : Int) := by omega
            have q4 : (y : Int) < (m : Int) := by omega
            have hlen' := hS.len
            have hdur : 0 ≤ du ∧ du ≤ 1000 := by
              have h1 := hS.bf.le k hkF
              simp only [hFk, Int.toNat_natCast] at h1
              have h2 := hS.bf.mem (u : Int) (by omega) (by omega)
              simp only [Int.toNat_natCast] at h2
              rw [hdu]
              rcases h2 with h2 | h2
              · exact ⟨h2.2, by omega⟩
              · exact absurd (by rw [← hFk]; exact List.getElem_mem hkF) h2.1
            obtain ⟨gf', cf', hfv, hgf', cF'⟩ := hS.at hkF
            subst hfv
            rw [hFk] at cF'
            obtain ⟨K', hK'⟩ := ex_eq F'.length
            rw [← hK'] at HSR hlen' hkF ⊢
            have HK' := hid hK'
            clear hy hadj hyr hca hS hF' hall hsr hFk hoy hdy hdu hK'
            cases oy with
            | false =>
              have HNX : Hid (∃ F' D', Srch wr m es O v FB BB (.slice (some ⟨gf', 0, none⟩) K' cf') F' D' k ∧ F'[k]? = some (u : Int) ∧ ∀ z ∈ L.take (c + 1), O z.toNat = true → z ∈ F') := ⟨F', D', HSR.out, HF'.out, HTK.out F' (fun z h => h) (fun h => by rw [← HOY.out] at h; cases h)⟩
              clear HTK HALL HSR HFK HF' HDY HDU HY HADJ HOY
              go_wp2
              go_roundg (J - (c + 1))
              case measure => omega
              case rel => exact ⟨c + 1, by omega, Nat.le_refl _, by go_num, HNX, hbr, hszr⟩
            | true =>
              by_cases hdn : 0 ≤ dy
              · have e1 : ¬ dy < 0 := by omega
                have e2 : decide (dy < 0) = false := decide_eq_false e1
                have HNX : Hid (∃ F' D', Srch wr m es O v FB BB (.slice (some ⟨gf', 0, none⟩) K' cf') F' D' k ∧ F'[k]? = some (u : Int) ∧ ∀ z ∈ L.take (c + 1), O z.toNat = true → z ∈ F') := ⟨F', D', HSR.out, HF'.out, HTK.out F' (fun z h => h) (fun _ => by
                  rcases HSR.out.bf.mem (y : Int) (by omega) q4 with h | h
                  · exact h.1
                  · have := h.2; simp at this; rw [← HDY.out] at this; omega)⟩
                clear HTK HALL HSR HFK HF' HDY HDU HY HADJ HOY
                go_wp2
                go_roundg (J - (c + 1))
                case measure => omega
                case rel => exact ⟨c + 1, by omega, Nat.le_refl _, by go_num, HNX, hbr, hszr⟩
              · have e1 : dy < 0 := by omega
                have e2 : decide (dy < 0) = true := decide_eq_true e1
                have e3 : IntKind.i64.wrap (du + 1) = du + 1 := by simp [IntKind.wrap, IntKind.bits, IntKind.signed]; omega
                have hdy1 : D' y = -1 := by
                  rcases HSR.out.bf.mem (y : Int) (by omega) q4 with h | h
                  · have := h.2; simp at this; rw [← HDY.out] at this; omega
                  · have := h.2; simp at this; exact this
                obtain ⟨W2, hW2⟩ := ex_eq (wr.setCell ⟨FB, y, none⟩ (.int .i64 (du + 1)))
                have hkp2 : KeptBut (fun x => x = FB) wr W2 := by rw [hW2]; exact kept_set wr ⟨FB, y, none⟩ _
                have hsW2 : W2.heap.size = wr.heap.size := by rw [hW2]; simp
                have hFBB := HSR.out.lt
                have HOW : Hid ((W2.alloc (.cells #[.int .i64 y] 3)).ownsRow BB 3 1 (.slice (some ⟨gf', 0, none⟩) K' cf') K' (F'.map (Value.int .i64))) := by
                  show World.ownsRow _ _ _ _ _ _ _
                  have := HSR.out.own
                  rw [← HK'.out] at this
                  refine World.ownsRow.alloc (own_kept this hkp2 (fun g0 h0 e => ?_)) _
                  obtain rfl : gf' = g0 := by simpa [Value.ownBlock] using h0
                  omega
                have HNW : Hid (∀ p, some (⟨W2.heap.size, 0, none⟩ : Addr) = some p → ∀ j u, [Value.int .i64 (y : Int)][j]? = some u → (W2.alloc (.cells #[.int .i64 y] 3)).cell? (p.add j) = some u) := news_oneI
                have HON : Hid (∀ v ∈ [Value.int .i64 (y : Int)], v.oneCell' = true) := fun v hv => by simp at hv; rw [hv]; rfl
                have H63 : Hid (K' + 1 ≤ maxLen) := by show K' + 1 ≤ maxLen; unfold maxLen; omega
                have HBS : Hid (BB ≤ (W2.alloc (.cells #[.int .i64 y] 3)).heap.size) := by show BB ≤ _; simp; omega
                have HKP : Hid (∀ w4, (W2.alloc (.cells #[.int .i64 y] 3)).grownBy w4 (Value.slice (some ⟨gf', 0, none⟩) K' cf').ownBlock → Below w.heap.size w w4 ∧ BB ≤ w4.heap.size) := fun w4 hg => by
                  refine ⟨Below.grown (show Below w.heap.size w (W2.alloc _) from ?_) hg (by simp; omega) (fun j hj => by obtain rfl : gf' = j := by { simpa [Value.ownBlock] using hj }; omega), Nat.le_trans HBS.out hg.size⟩
                  rw [hW2]
                  exact (hbr.setCell (p := ⟨FB, y, none⟩) (by simp; omega) _).alloc (by simp; exact hbr.size) _
                have HSP : Hid (∀ w4 v4, w4.ownsRow BB 3 1 v4 (K' + 1) (F'.map (Value.int .i64) ++ [.int .i64 (y : Int)]) → (W2.alloc (.cells #[.int .i64 y] 3)).grownBy w4 (Value.slice (some ⟨gf', 0, none⟩) K' cf').ownBlock → ∃ F' D', Srch w4 m es O v FB BB v4 F' D' k ∧ F'[k]? = some (u : Int) ∧ ∀ z ∈ L.take (c + 1), O z.toNat = true → z ∈ F') := fun w4 v4 h1 h2 => by
                  obtain ⟨hkF, hFk⟩ := HFK.out
                  rw [hW2, HDU.out] at h2
                  rw [HK'.out] at h1
                  refine ⟨_, _, HSR.out.put hkF hFk HADJ.out hym HOY.out.symm hdy1 h1 h2, ?_, HTK.out _ (fun z h => List.mem_append_left _ h) (fun _ => by simp)⟩
                  rw [List.getElem?_append_left hkF]
                  exact HF'.out
                have HW2 := hid hW2
                clear hW2 HTK HALL HSR HFK HF' HDY HDU HY HADJ HOY hkp2 hsW2 hdy1 HK'
                go_upto_region 14 with fail
                rw [← HW2.out]
                clear HW2
                go_wp2_with (at_builtin; refine wpList_append_any _ rfl _ _ 28 rfl BB 3 i0 _ 1 8 Try.underlying28 hi hz0 hz1 hz2 rfl (by decide) _ _ _ rfl HOW.out (some ⟨W2.heap.size, 0, none⟩) 1 1 [.int .i64 y] rfl (fun h => by cases h) rfl HNW.out HON.out H63.out ?c4 HBS.out ?_)
                case c4 => omega
                intro v4 w4 hown4 hgrow _
                have HNX := hid (HSP.out w4 v4 hown4 hgrow)
                obtain ⟨hb4, hsz4⟩ := HKP.out w4 hgrow
                clear hown4 hgrow HKP HSP HBS H63 HON HNW HOW
                go_wp2
                go_roundg (J - (c + 1))
                case measure => omega
                case rel => exact ⟨c + 1, by omega, Nat.le_refl _, by go_num, HNX, hb4, hsz4⟩
          · obtain rfl : c = J := by omega
            obtain ⟨F', D', hS, hF', hall⟩ := hsr.out
            have hkF : k < F'.length := by
              by_cases e : k < F'.length
              · exact e
              · rw [List.getElem?_eq_none (by omega)] at hF'; cases hF'
            have hFk : F'[k] = (u : Int) := by rw [List.getElem?_eq_getElem hkF] at hF'; exact Option.some.inj hF'
            have hlen' := hS.len
            have HNX : Hid (Srch wr m es O v FB BB u8 F' D' (k + 1)) := hS.mono (Below.refl _ _) (hS.bf.next hkF (fun z ha hO => by
              rw [hFk] at ha
              have : z ∈ L := by rw [HL.out]; exact (nbL_right (n := m) HR.out).2 ha
              exact hall z (by rw [HJ.out, List.take_length]; exact this) hO))
            have hkm : k < m := by omega
            clear hS hF' hall hsr hFk
            go_wp2
            go_roundw
            case rel => exact ⟨F', D', k + 1, by omega, by go_num, HNX, hbr, hszr⟩
            case measure => simp [RowKit.intOf]; omega
      · obtain rfl : k = F.length := by omega
        have hbf := hs.out.bf.lev HR.out
        have HLE : Hid (∀ j, j < m → D j ≤ 1000) := fun j hj => by
          rcases hs.out.bf.mem (j : Int) (by omega) (by omega) with h | h
          · obtain ⟨i, hi', e⟩ := List.getElem_of_mem h.1
            have h1 := hs.out.bf.le i hi'
            rw [e] at h1
            simp only [Int.toNat_natCast] at h1
            omega
          · have := h.2
            simp only [Int.toNat_natCast] at this
            omega
        have HLV := hid hbf
        have HFR := hid hs.out.far
        obtain ⟨af, cf, rfl, hsl⟩ := sl_own hs.out.own
        obtain ⟨K, hK⟩ := ex_eq F.length
        rw [← hK] at hs ⊢
        clear hbf hs hK
        go_wp2
        go_ret
        exact ⟨_, rfl, FB, D, rfl, by omega, HFR.out, hbo, HLE.out, Or.inr ⟨HOV.out.symm, HLV.out⟩⟩
end Go.Proofs.Ytplhpinaadgkkaa
namespace Go.Proofs.Ytplhpinaadgkkaa
open Go.RowKit Go.Lib

def esS : List (Int × Int) := [(0, 1), (0, 3), (1, 2), (2, 3)]
/-- What lies in memory while the small case goes on. -/
structure ShW (w W : World) (B : Nat) (a1 a2 : Option Addr) : Prop where
  gc : GC W (B + 1) 4 (some ⟨B, 0, none⟩) 4 4 esS
  r1 : IAt W a1 [0, 3, 2]
  r2 : IAt W a2 [0, 2, 1, 3]
  bel : Below B w W
  le : B ≤ W.heap.size
theorem ShW.on {w W X : World} {B : Nat} {a1 a2 : Option Addr} (h : ShW w W B a1 a2) (hb : Below W.heap.size W X) : ShW w X B a1 a2 := ⟨h.gc.on hb, h.r1.below hb, h.r2.below hb, h.bel.trans (hb.mono h.le), Nat.le_trans h.le hb.size⟩
theorem below_one (W : World) (o : Obj) : Below W.heap.size W (W.alloc o) := (Below.refl _ _).alloc (Nat.le_refl _) o

end Go.Proofs.Ytplhpinaadgkkaa
namespace Go.Proofs.Ytplhpinaadgkkaa
open Go.RowKit Go.Lib

theorem SubTold.imp {S S' : Int → Int → List (Int × Int) → Prop} {w w' : World} {v : Value} (h : SubTold S w w' v) (i : ∀ er N E, S er N E → S' er N E) : SubTold S' w w' v := by
  obtain ⟨er, N, E, a', cap', h1, h2, h3⟩ := h
  exact ⟨er, N, E, a', cap', h1, i _ _ _ h2, h3⟩
end Go.Proofs.Ytplhpinaadgkkaa
namespace Go.Proofs.Ytplhpinaadgkkaa
open Go.RowKit Go.Lib

theorem flat_count {LL : List (List Int)} (hnd : ∀ L ∈ LL, L.Nodup) (v : Nat) : LL.flatten.count (v : Int) = (atL LL v).length := by
  induction LL with
  | nil => simp [atL]
  | cons L LL ih =>
    have h2 := ih (fun M hM => hnd M (List.mem_cons_of_mem _ hM))
    have h1 := hnd L (by simp)
    unfold atL at h2 ⊢
    rw [List.flatten_cons, List.count_append, h2, List.filter_cons]
    by_cases h : (v : Int) ∈ L
    · rw [if_pos (decide_eq_true h), List.Nodup.count h1, if_pos h, List.length_cons]; omega
    · rw [if_neg (by simpa using h), List.count_eq_zero.2 h]; omega
theorem sev_cuts {m : Nat} {es : List (Int × Int)} {Bs : List (List Int)} (hR : RightG m es) (hB : BlocksL es Bs) : CutsL es (sevL m Bs) := by
  refine cuts_of hR hB ?_ (fun v => ?_)
  · unfold sevL
    rw [List.pairwise_map]
    exact (List.pairwise_lt_range.filter _).imp (fun h => by omega)
  · have hnd : ∀ L ∈ Bs, L.Nodup := fun L hL => by
      rw [List.nodup_iff_pairwise_ne]
      exact ((hB.is L).1 hL).1.imp (fun h => by omega)
    unfold sevL
    simp only [List.mem_map, List.mem_filter, List.mem_range, decide_eq_true_eq]
    constructor
    · rintro ⟨i, ⟨h1, h2⟩, rfl⟩
      rw [flat_count hnd] at h2
      exact ⟨by omega, h2⟩
    · rintro ⟨h1, h2⟩
      refine ⟨v.toNat, ⟨by omega, ?_⟩, by omega⟩
      rw [flat_count hnd]; exact h2

theorem iat_off_tree {w : World} {B : Nat} {T : TypeId} {fr : Nat × Nat} {a : Option Addr} {xs : List Int} (hB : w.heap[B]? = some (.cells #[.slice none 0 0, .slice none 0 0] T fr)) (h : IAt w a xs) : ∀ g off, a = some ⟨g, off, none⟩ → 0 < xs.length → ¬ g = B := fun g off ha h0 e => by
  subst e
  obtain ⟨g', off', ha', _, hc⟩ := h h0
  rw [ha] at ha'
  simp only [Option.some.injEq, Addr.mk.injEq, and_true] at ha'
  obtain ⟨rfl, rfl⟩ := ha'
  have h1 := hc 0 h0
  rw [cell_of_heap hB] at h1
  match off, h1 with
  | 0, h1 => simp at h1
  | 1, h1 => simp at h1
  | k + 2, h1 => simp at h1
theorem llat_off_tree {w : World} {B : Nat} {T : TypeId} {fr : Nat × Nat} {a : Option Addr} {LL : List (List Int)} (hB : w.heap[B]? = some (.cells #[.slice none 0 0, .slice none 0 0] T fr)) (hne : ∀ L ∈ LL, 0 < L.length) (h : LLAt w a LL) {w' : World} (hk : KeptBut (fun k => k = B) w w') : LLAt w' a LL := fun h0 => by
  obtain ⟨g, off, ha, hg, hc⟩ := h h0
  have hgB : ¬ g = B := fun e => by
    subst e
    obtain ⟨ak, ck, h1, _⟩ := hc 0 h0
    have hl := hne LL[0] (List.getElem_mem _)
    rw [cell_of_heap hB] at h1
    match off, h1 with
    | 0, h1 => simp at h1; omega
    | 1, h1 => simp at h1; omega
    | k + 2, h1 => simp at h1
  refine ⟨g, off, ha, Nat.lt_of_lt_of_le hg hk.size, fun k hk' => ?_⟩
  obtain ⟨ak, ck, h1, h2⟩ := hc k hk'
  exact ⟨ak, ck, (hk.cell (p := ⟨g, off + k, none⟩) hg hgB).trans h1, h2.kept hk (iat_off_tree hB h2)⟩
set_option maxHeartbeats 4000000 in
set_option maxRecDepth 100000 in
theorem blkOf_any (n : Int) (a : Option Addr) (cap : Nat) (es : List (Int × Int)) (b : Bool) (w : World) (hN : es.length ≤ 1000000) (hE : EAt w a es) (hb : b = true ↔ RightG n es) :
    Calls Try.prog 11 #[.agg #[.int .i64 n, .slice a es.length cap]] w fun e w' => ∃ v, e = .returned v ∧ TreeTold n es w w' v := by
  obtain ⟨N, hNe⟩ := ex_eq es.length
  obtain ⟨W, hW, hsW, hO0, hO1, hbW⟩ := new_two w (.cells #[.int .i64 n, .slice a N cap] 26) (.cells #[.slice none 0 0, .slice none 0 0] 31)
  have HGC : Hid (∀ X, Below W.heap.size W X → GC X w.heap.size n a N cap es ∧ Below w.heap.size w X ∧ X.heap[w.heap.size + 1]? = some (.cells #[.slice none 0 0, .slice none 0 0] 31 (0, 0))) := fun X hX => by
    have o := (hX.block _ (by omega)).trans hO0
    have o1 := (hX.block (w.heap.size + 1) (by omega)).trans hO1
    have hbx : Below w.heap.size w X := hbW.trans (hX.mono (by omega))
    exact ⟨⟨cell_of_heap o 0, cell_of_heap o 1, hE.below hbx⟩, hbx, o1⟩
  have CR : Hid (∀ X, Below W.heap.size W X → Calls Try.prog 26 #[.agg #[.int .i64 n, .slice a N cap]] X fun e w' => e = .returned (.bool b) ∧ Below X.heap.size X w') := fun X hX => by
    rw [hNe]; exact right_any n a cap es b X hN (HGC.out X hX).1.at_ hb
  have CB : Hid (∀ (m : Nat) X, n = m → RightG n es → Below W.heap.size W X → Calls Try.prog 27 #[.int .i64 m, .slice a N cap] X fun e w' => ∃ u us LL, e = .returned u ∧ LLOwn w' X.heap.size (fun k => X.heap.size ≤ k) u us LL ∧ (∀ B, B ∈ LL ↔ IsBlk es B) ∧ LL.Nodup ∧ LL.length ≤ 1000 ∧ Below X.heap.size X w') := fun m X hm hR hX => by
    subst hm
    rw [hNe]; exact blocksOf_any m a cap es X (HGC.out X hX).1.at_ hR
  have HBB := hid hb
  have HW := hid hW
  have HZ : Hid (∀ X u v, Below w.heap.size w X → Below w.heap.size w ((X.setCell ⟨w.heap.size + 1, 0, none⟩ u).setCell ⟨w.heap.size + 1, 1, none⟩ v)) := fun X u v hX => (hX.setCell (p := ⟨w.heap.size + 1, 0, none⟩) (by simp) _).setCell (p := ⟨w.heap.size + 1, 1, none⟩) (by simp) _
  rw [← hNe]
  have HSW := hid hsW
  clear hNe hW hO0 hO1 hbW hE hb hN hsW
  go_enter Try.func11, Try.ntmps11
  go_wp2_with fail
  rw [← HW.out]
  refine (CR.out W (Below.refl _ _)).mono ?_
  rintro e w1 ⟨rfl, hb1⟩
  obtain ⟨hg1, hbw1, ho1⟩ := HGC.out w1 hb1
  have HB1 := hid hb1
  have HBw1 := hid hbw1
  have z0 := cell_of_heap ho1 0
  have z1 := cell_of_heap ho1 1
  have zf0 := frozen_of_heap ho1 0
  have zf1 := frozen_of_heap ho1 1
  clear CR hb1 hbw1 HW
  cases b with
  | false =>
    have HNR : Hid (OfRel n es [] []) := Or.inr ⟨(fun h => by have := HBB.out.2 h; cases this), rfl, rfl⟩
    clear HBB hg1 ho1 CB
    go_wp2
    refine bodyPost_ret (v := .agg #[.slice none 0 0, .slice none 0 0]) ?_ rfl ⟨_, rfl, [], [], none, 0, none, 0, rfl, HNR.out, iat_nil _ _, llat_nil _ _, HZ.out w1 _ _ HBw1.out⟩
    rw [results_cell1 rfl]
    go_simp
  | true =>
    have HRG := hid (HBB.out.1 rfl)
    obtain ⟨m, rfl⟩ : ∃ m : Nat, n = m := ⟨n.toNat, by have := HRG.out.1; omega⟩
    have hm : m ≤ 1000 := by have := HRG.out.2.1; omega
    have C2 := hid (CB.out m w1 rfl HRG.out HB1.out)
    obtain ⟨c0, c1⟩ := hg1.cells
    clear HBB hg1 ho1 z0 z1 zf0 zf1 CB
    go_wp2_with fail
    refine C2.out.mono ?_
    rintro e w2 ⟨u, us, LL, rfl, hown, hLL, hnd, hlen, hb2⟩
    have hbW2 : Below W.heap.size W w2 := HB1.out.trans (hb2.mono HB1.out.size)
    have hrl : ∀ L ∈ LL, L.length ≤ 1000 := fun L hL => by have := blk_len HRG.out ((hLL L).1 hL); omega
    obtain ⟨x, xc, rfl, CS⟩ := sortL_any hown hnd hlen (fun L hL => by have := hrl L hL; omega)
    have HCS := hid CS
    have HLL := hid hLL
    have HRL := hid hrl
    have HB2 := hid hbW2
    have HS1 : Hid (W.heap.size ≤ w1.heap.size ∧ w1.heap.size ≤ w2.heap.size) := ⟨HB1.out.size, hb2.size⟩
    obtain ⟨K, hK⟩ := ex_eq LL.length
    rw [← hK] at HCS ⊢
    have HK := hid hK
    clear CS hown hLL hnd hrl hbW2 hb2 C2 c0 c1 hK hlen
    go_wp2_with fail
    refine HCS.out.mono ?_
    rintro e w3 ⟨rfl, LL', hperm, hord, hll, hkeep⟩
    have hb3 : Below W.heap.size W w3 := hkeep _ _ HB2.out HS1.out.1 HB2.out.size
    obtain ⟨hg3, hbw3, ho3⟩ := HGC.out w3 hb3
    have hBs : BlocksL es LL' := ⟨fun B => (hperm.mem_iff).trans (HLL.out B), hord⟩
    have hl' : LL'.length = K := by rw [hperm.length_eq, HK.out]
    have hcon := sev_any m x xc LL' w3 hm (by have := blks_len HRG.out hBs; omega) (fun L hL => HRL.out L (hperm.mem_iff.1 hL)) (fun L hL => ((hBs.is L).1 hL).in HRG.out) hll
    rw [hl'] at hcon
    have C3 := hid hcon
    have HREL : Hid (OfRel m es (sevL m LL') LL') := Or.inl ⟨HRG.out, hBs, sev_cuts HRG.out hBs⟩
    have HLL3 := hid hll
    have HB3 := hid hb3
    have HL' := hid hl'
    obtain ⟨c0, c1⟩ := hg3.cells
    clear hcon hperm hord hkeep hbw3 hBs hl' hll HCS HLL HRL HB2 HB1 HBw1 hb3 ho3 hg3
    go_wp2_with fail
    refine C3.out.mono ?_
    rintro e w4 ⟨ca, cc, rfl, hca, hb4⟩
    have hb4W : Below W.heap.size W w4 := HB3.out.trans (hb4.mono HB3.out.size)
    obtain ⟨hg4, hbw4, ho4⟩ := HGC.out w4 hb4W
    have z0 := cell_of_heap ho4 0
    have z1 := cell_of_heap ho4 1
    have zf0 := frozen_of_heap ho4 0
    have zf1 := frozen_of_heap ho4 1
    have HCA := hid hca
    have HLL4 := hid (HLL3.out.below hb4)
    have HBw4 := hid hbw4
    have HO4 := hid ho4
    obtain ⟨Q, hQ⟩ := ex_eq (sevL m LL').length
    rw [← hQ]
    have HQ := hid hQ
    clear hb4 hb4W hg4 hbw4 ho4 hca HLL3 C3 c0 c1 hQ
    go_wp2
    refine bodyPost_ret (v := .agg #[.slice ca Q cc, .slice x K xc]) ?_ rfl ⟨_, rfl, sevL m LL', LL', ca, cc, x, xc, by rw [HQ.out, HL'.out], HREL.out, ?_, ?_, HZ.out w4 _ _ HBw4.out⟩
    · rw [results_cell1 rfl]
      go_simp
    · exact HCA.out.kept ((kept_set w4 ⟨w.heap.size + 1, 0, none⟩ _).trans (kept_set _ ⟨w.heap.size + 1, 1, none⟩ _)) (iat_off_tree HO4.out HCA.out)
    · exact llat_off_tree HO4.out (fun L hL => by
        rcases HREL.out with ⟨h1, h2, _⟩ | ⟨h1, _, _⟩
        · have := blk_two h1 ((h2.is L).1 hL); omega
        · exact absurd HRG.out h1) HLL4.out ((kept_set w4 ⟨w.heap.size + 1, 0, none⟩ _).trans (kept_set _ ⟨w.heap.size + 1, 1, none⟩ _))
end Go.Proofs.Ytplhpinaadgkkaa
