/-
  The program's distances: a search, one vertex behind the other.
  The small case that the laws of layer 5 begin with answers true.
  The program's table of pairs, and how long its paths are (layer 9).
  The program's formed (layer 9).
  Who leads to whom in a part of the program's. No program is named here.
  What the laws of layer 4 ask of the program's parts: a row of contracts over any way in which a part may lie in memory.
  The program's parts in memory; who stands for a class (has, head).
  The program's New, Same, Count and Join of layer 4.
  The program's gather of layer 4: a map from who stands for a class to the numbers of it.
-/
import Derived.Test.YtckcbaegehfkoaaC09
import Derived.Test.YtckcbaegehfkoaaC12
import Derived.Test.YtckcbaegehfkoaaC07
import Derived.Test.YtckcbaegehfkoaaC01
import Derived.Laws.CopyOwn
import Derived.Test.YtckcbaegehfkoaaC06
import Derived.Test.YtckcbaegehfkoaaC04
import Derived.Test.YtckcbaegehfkoaaC03
import Derived.BigRegion
import Derived.Lib.Walk
import Derived.Maps.GroupsBeside
import Derived.WalkSpells
namespace Go.Proofs.Ytckcbaegehfkoaa
open Go.RowKit Go.Lib

theorem Row1.belowW {w w' : World} {g n : Nat} {c : Nat → Int} (h : Row1 w g n c) (hb : Below w.heap.size w w') : Row1 w' g n c := h.kept (KeptBut.of_whole (fun _ => False) hb) (fun e => e)
/-- The search in memory: what is found, in a row of its own, and how far off it lies. -/
structure Srch (w : World) (m : Nat) (es : List (Int × Int)) (O : Nat → Bool) (v FB B : Nat) (fv : Value) (F : List Int) (D : Nat → Int) (i : Nat) : Prop where
  own : w.ownsRow B 3 1 fv F.length (F.map (Value.int .i64))
  far : Row1 w FB m D
  bf : Bf m es (fun x => O x.toNat = true) v F (fun x => D x.toNat) i
  lt : FB < B
theorem Srch.len {w : World} {m : Nat} {es : List (Int × Int)} {O : Nat → Bool} {v FB B : Nat} {fv : Value} {F : List Int} {D : Nat → Int} {i : Nat} (h : Srch w m es O v FB B fv F D i) : F.length ≤ m := by
  have := len_le_subI (a := F) (b := (List.range m).map (fun j : Nat => (j : Int))) h.bf.nd (fun x hx => by
    have := (h.bf.inr x hx).1
    exact List.mem_map.2 ⟨x.toNat, by simp; omega, by omega⟩)
  simpa using this
theorem own_at {w : World} {B : Nat} {fv : Value} {F : List Int} (h : w.ownsRow B 3 1 fv F.length (F.map (Value.int .i64))) {j : Nat} (hj : j < F.length) : ∃ g cap, fv = .slice (some ⟨g, 0, none⟩) F.length cap ∧ B ≤ g ∧ w.cell? ⟨g, j, none⟩ = some (.int .i64 F[j]) := by
  rcases h.2 with ⟨_, h0⟩ | ⟨g, cap, cur, hv, hg, hgb, _⟩
  · simp at h0; rw [h0] at hj; simp at hj
  · refine ⟨g, cap, hv, hg, ?_⟩
    have := h.cells (g := g) (by rw [hv]; rfl) j (.int .i64 F[j]) (by rw [List.getElem?_map, List.getElem?_eq_getElem hj]; rfl)
    rw [add_at, Nat.zero_add] at this
    exact this
theorem Srch.at {w : World} {m : Nat} {es : List (Int × Int)} {O : Nat → Bool} {v FB B : Nat} {fv : Value} {F : List Int} {D : Nat → Int} {i : Nat} (h : Srch w m es O v FB B fv F D i) {j : Nat} (hj : j < F.length) : ∃ g cap, fv = .slice (some ⟨g, 0, none⟩) F.length cap ∧ B ≤ g ∧ w.cell? ⟨g, j, none⟩ = some (.int .i64 F[j]) := by
  rcases h.own.2 with ⟨_, h0⟩ | ⟨g, cap, cur, hv, hg, hgb, _⟩
  · simp at h0; rw [h0] at hj; simp at hj
  · refine ⟨g, cap, hv, hg, ?_⟩
    have := h.own.cells (g := g) (by rw [hv]; rfl) j (.int .i64 F[j]) (by rw [List.getElem?_map, List.getElem?_eq_getElem hj]; rfl)
    rw [add_at, Nat.zero_add] at this
    exact this
/-- One more is found: its distance is set, then it goes behind the others. -/
theorem Srch.put {w : World} {m : Nat} {es : List (Int × Int)} {O : Nat → Bool} {v FB B : Nat} {fv : Value} {F : List Int} {D : Nat → Int} {i : Nat} (h : Srch w m es O v FB B fv F D i) (hi : i < F.length) {u y : Nat} (hu : F[i] = (u : Int)) (ha : Adj es u y) (hy : y < m) (hO : O y = true) (hn : D y = -1) {w4 : World} {o : Obj} {fv' : Value}
    (hown : w4.ownsRow B 3 1 fv' (F.length + 1) (F.map (Value.int .i64) ++ [.int .i64 (y : Int)])) (hg : ((w.setCell ⟨FB, y, none⟩ (.int .i64 (D u + 1))).alloc o).grownBy w4 fv.ownBlock) : Srch w4 m es O v FB B fv' (F ++ [(y : Int)]) (fun j => if j = y then D u + 1 else D j) i := by
  have hnm : (y : Int) ∉ F := by
    rcases h.bf.mem (y : Int) (by omega) (by omega) with e | e
    · have := e.2; simp at this; omega
    · exact e.1
  refine ⟨by simpa using hown, ?_, ?_, h.lt⟩
  · have h1 := (h.far.put (i := y) hy (D u + 1)).alloc o
    refine h1.kept (KeptBut.of_grown hg) (fun e => ?_)
    have := h.own.lt FB e.symm
    have := h.lt
    omega
  · have := h.bf.put hi (v := (y : Int)) (by rw [hu]; exact ha) (by omega) (by simpa using hO) hnm
    have e : (fun x : Int => if x = (y : Int) then D F[i].toNat + 1 else D x.toNat) = fun x : Int => if x = (y : Int) then D u + 1 else D x.toNat := by rw [hu]; rfl
    rw [e] at this
    exact this.congr (fun x h0 _ => by
      show (if x = (y : Int) then D u + 1 else D x.toNat) = (if x.toNat = y then D u + 1 else D x.toNat)
      by_cases e : x = (y : Int)
      · subst e; simp
      · rw [if_neg e, if_neg (by omega)])
theorem Srch.mono {w w' : World} {m : Nat} {es : List (Int × Int)} {O : Nat → Bool} {v FB B : Nat} {fv : Value} {F : List Int} {D : Nat → Int} {i i' : Nat} (h : Srch w m es O v FB B fv F D i) (hb : Below w.heap.size w w') (hbf : Bf m es (fun x => O x.toNat = true) v F (fun x => D x.toNat) i') : Srch w' m es O v FB B fv F D i' :=
  ⟨own_below h.own hb, h.far.belowW hb, hbf, h.lt⟩

end Go.Proofs.Ytckcbaegehfkoaa
namespace Go.Proofs.Ytckcbaegehfkoaa
open Go.RowKit Go.Lib

def esS : List (Int × Int) := [(0, 1), (0, 3), (1, 2), (2, 3)]
/-- What lies in memory while the small case goes on. -/
structure ShW (w W : World) (B : Nat) (a1 a2 : Option Addr) : Prop where
  gc : GC W (B + 1) 4 (some ⟨B, 0, none⟩) 4 4 esS
  r1 : IAt W a1 [0, 3, 2]
  r2 : IAt W a2 [0, 2, 1, 3]
  bel : Below B w W
  le : B ≤ W.heap.size
theorem ShW.on {w W X : World} {B : Nat} {a1 a2 : Option Addr} (h : ShW w W B a1 a2) (hb : Below W.heap.size W X) : ShW w X B a1 a2 := ⟨h.gc.on hb, h.r1.below hb, h.r2.below hb, h.bel.trans (hb.mono h.le), Nat.le_trans h.le hb.size⟩
theorem below_one (W : World) (o : Obj) : Below W.heap.size W (W.alloc o) := (Below.refl _ _).alloc (Nat.le_refl _) o

end Go.Proofs.Ytckcbaegehfkoaa
namespace Go.Proofs.Ytckcbaegehfkoaa
open Go.RowKit Go.Lib Go.Shelf

/-- How many tops a subdivision has; between which of them its paths lead. -/
def topN (k : Int) : Nat := if k = 1 then 4 else if k = 2 then 2 else 0
def prL (k : Int) : List (Int × Int) := if k = 1 then [(0, 1), (0, 2), (0, 3), (1, 2), (1, 3), (2, 3)] else if k = 2 then [(0, 1), (0, 1), (0, 1)] else []
theorem eat_newT (w : World) (es : List (Int × Int)) (cs : Array Value) (T : TypeId) (hcs : cs = (cellsE es).toArray) : EAt (w.alloc (.cells cs T)) (some ⟨w.heap.size, 0, none⟩) es :=
  eat_of_cells (by simp) (fun j u hu => by rw [cell_of_heap (heap_alloc_new w _), hcs, Nat.zero_add]; simpa using hu)

set_option maxHeartbeats 2000000 in
set_option maxRecDepth 100000 in
theorem tpat_any (k : Int) (w : World) :
    Calls Try.prog 35 #[.int .i64 k] w fun e w' => ∃ a c, e = .returned (.tuple #[.int .i64 (topN k : Nat), .slice a (prL k).length c]) ∧ EAt w' a (prL k) ∧ Below w.heap.size w w' := by
  by_cases h1 : k = 1
  · subst h1
    have HE := hid (eat_newT w (prL 1) #[.int .i64 0, .int .i64 1, .int .i64 0, .int .i64 2, .int .i64 0, .int .i64 3, .int .i64 1, .int .i64 2, .int .i64 1, .int .i64 3, .int .i64 2, .int .i64 3] 66 rfl)
    have HB := hid (below_one w (.cells #[.int .i64 0, .int .i64 1, .int .i64 0, .int .i64 2, .int .i64 0, .int .i64 3, .int .i64 1, .int .i64 2, .int .i64 1, .int .i64 3, .int .i64 2, .int .i64 3] 66))
    go_enter Try.func35, Try.ntmps35
    go_wp2
    go_ret2
    exact ⟨some ⟨w.heap.size, 0, none⟩, 6, rfl, HE.out, HB.out⟩
  · have b1 : (k == 1) = false := by simp [h1]
    by_cases h2 : k = 2
    · subst h2
      have HE := hid (eat_newT w (prL 2) #[.int .i64 0, .int .i64 1, .int .i64 0, .int .i64 1, .int .i64 0, .int .i64 1] 66 rfl)
      have HB := hid (below_one w (.cells #[.int .i64 0, .int .i64 1, .int .i64 0, .int .i64 1, .int .i64 0, .int .i64 1] 66))
      go_enter Try.func35, Try.ntmps35
      go_wp2
      go_ret2
      exact ⟨some ⟨w.heap.size, 0, none⟩, 3, rfl, HE.out, HB.out⟩
    · have b2 : (k == 2) = false := by simp [h2]
      have e1 : topN k = 0 := by unfold topN; rw [if_neg h1, if_neg h2]
      have e2 : prL k = [] := by unfold prL; rw [if_neg h1, if_neg h2]
      rw [e1, e2]
      go_enter Try.func35, Try.ntmps35
      go_wp2
      go_ret2
      exact ⟨none, 0, rfl, eat_nil _ _, Below.refl _ _⟩

set_option maxHeartbeats 1000000 in
theorem short_any (a : Option Addr) (n c bx : Nat) (least : Int) (w : World) (hb : w.cell? ⟨bx, 0, none⟩ = some (.int .i64 least)) :
    Calls Try.prog 74 #[.slice a n c, .pointer (some ⟨bx, 0, none⟩)] w fun e w' => e = .returned (.bool (decide ((n : Int) < least))) ∧ w' = w := by
  go_enter Try.func74, Try.ntmps74
  go_wp2
  go_ret
  exact ⟨rfl, rfl⟩
theorem anyShort (least : Int) (bx : Nat) (a : Option Addr) (cap : Nat) (LL : List (List Int)) (r : Bool) (w : World) (hN : LL.length ≤ 1000000) (hL : LLAt w a LL) (hb : w.cell? ⟨bx, 0, none⟩ = some (.int .i64 least)) (hr : r = true ↔ ∀ L ∈ LL, least ≤ L.length) :
    Calls Try.prog 73 #[.slice a LL.length cap, .func (.func 74) #[] #[.pointer (some ⟨bx, 0, none⟩)]] w fun e w' => e = .returned (.bool (!r)) ∧ ∃ q, w' = w.drewN q := by
  by_cases h0 : LL.length = 0
  · have e : LL = [] := List.length_eq_zero_iff.1 h0
    subst e
    have h := AnyE.slices_ContainsFunc_empty Try.containsRows a cap (.func (.func 74) #[] #[.pointer (some ⟨bx, 0, none⟩)]) w
    change Calls Try.prog 73 _ _ _ at h
    have e : r = true := hr.2 (fun _ h => by simp at h)
    subst e
    refine Calls.mono h ?_
    rintro e w' ⟨rfl, rfl⟩
    exact ⟨rfl, 0, rfl⟩
  obtain ⟨g, off, rfl, hg, hc⟩ := hL (by omega)
  have hbl := block_lt_of_cell hb
  obtain ⟨F, hF⟩ : ∃ F : Nat → Option Addr × Nat, ∀ k (hk : k < LL.length), w.cell? ⟨g, off + k, none⟩ = some (.slice (F k).1 LL[k].length (F k).2) :=
    ⟨fun k => if h : k < LL.length then ((hc k h).choose, (hc k h).choose_spec.choose) else (none, 0), fun k hk => by
      simp only [dif_pos hk]
      exact (hc k hk).choose_spec.choose_spec.1⟩
  have eg : ∀ args w, (callFunc 74 args).run Try.prog w = .ok (.enter 74 args) w := enters_of Try.func74 (by kernel_rfl) rfl
  have hp : PredAt Try.prog 74 #[.pointer (some ⟨bx, 0, none⟩)] (fun x : Option Addr × Nat × Nat => Value.slice x.1 x.2.1 x.2.2) (fun x => decide ((x.2.1 : Int) < least)) w := fun W x hW => by
    refine (short_any x.1 x.2.1 x.2.2 bx least W ((hW.cell (p := ⟨bx, 0, none⟩) hbl).trans hb)).mono ?_
    rintro e w' ⟨rfl, rfl⟩
    exact ⟨rfl, 0, rfl⟩
  have h := AnyE.slices_ContainsFunc Try.containsRows (fun x : Option Addr × Nat × Nat => Value.slice x.1 x.2.1 x.2.2) (fun x => decide ((x.2.1 : Int) < least)) 74 #[.pointer (some ⟨bx, 0, none⟩)] eg g off LL.length cap ((List.range LL.length).map (fun k => ((F k).1, (LL[k]?.getD []).length, (F k).2))) w hp (by simp) (by omega) (fun j hj => by
    have hj' : j < LL.length := by simpa using hj
    rw [hF j hj', getElem!_pos _ j hj]
    simp [hj'])
  change Calls Try.prog 73 _ _ _ at h
  have e : (((List.range LL.length).map (fun k => ((F k).1, (LL[k]?.getD []).length, (F k).2))).take LL.length).any (fun x => decide ((x.2.1 : Int) < least)) = !r := by
    rw [List.take_of_length_le (by simp)]
    cases r with
    | true =>
      have h1 := hr.1 rfl
      simp only [Bool.not_true, List.any_eq_false, List.mem_map, List.mem_range]
      rintro x ⟨k, hk, rfl⟩
      have := h1 LL[k] (List.getElem_mem hk)
      simp [hk]; omega
    | false =>
      simp only [Bool.not_false, List.any_eq_true, List.mem_map, List.mem_range]
      have h1 : ¬ ∀ L ∈ LL, least ≤ L.length := fun k => by have := hr.2 k; cases this
      obtain ⟨L, hm, hlt⟩ : ∃ L, L ∈ LL ∧ ¬ least ≤ L.length := Classical.byContradiction fun k => h1 (fun L hL => Classical.byContradiction fun k2 => k ⟨L, hL, k2⟩)
      obtain ⟨k, hk, rfl⟩ := List.getElem_of_mem hm
      exact ⟨_, ⟨k, hk, rfl⟩, by simp [hk]; omega⟩
  rw [e] at h
  exact h
set_option maxHeartbeats 1000000 in
theorem allHave_any (least : Int) (a : Option Addr) (cap : Nat) (LL : List (List Int)) (r : Bool) (w : World) (hN : LL.length ≤ 1000000) (hL : LLAt w a LL) (hr : r = true ↔ ∀ L ∈ LL, least ≤ L.length) :
    Calls Try.prog 37 #[.int .i64 least, .slice a LL.length cap] w fun e w' => e = .returned (.bool r) ∧ Below w.heap.size w w' := by
  obtain ⟨V, hV⟩ := ex_eq (w.alloc (.cells #[.int .i64 least] 3))
  have hb : Below w.heap.size w V := by rw [hV]; exact below_one _ _
  have o := heap_alloc_new w (.cells #[.int .i64 least] 3)
  rw [← hV] at o
  have C := hid (anyShort least w.heap.size a cap LL r V hN (hL.below hb) (cell_of_heap o 0) hr)
  have HB := hid hb
  have HV := hid hV
  obtain ⟨N, hNe⟩ := ex_eq LL.length
  rw [← hNe] at C ⊢
  have x0 := cell_of_heap o 0
  clear hN hL hr hb hV o hNe
  go_enter Try.func37, Try.ntmps37
  go_upto_region 1 with fail
  rw [← HV.out]
  go_wp2_with fail
  refine C.out.mono ?_
  rintro e w1 ⟨rfl, q, rfl⟩
  have HF := hid (below_drewN HB.out q)
  clear C
  go_wp2
  go_ret
  exact ⟨by simp, HF.out⟩
end Go.Proofs.Ytckcbaegehfkoaa
namespace Go.Proofs.Ytckcbaegehfkoaa
open Go.RowKit Go.Lib

theorem prL_len {kd : Int} (hk : kd = 1 ∨ kd = 2) : (prL kd).length = if kd = 1 then 6 else 3 := by
  rcases hk with rfl | rfl <;> decide
theorem topN_eq {kd : Int} (hk : kd = 1 ∨ kd = 2) : topN kd = if kd = 1 then 4 else 2 := by
  rcases hk with rfl | rfl <;> decide
theorem prL_at {kd : Int} (hk : kd = 1 ∨ kd = 2) {t : Nat} (h : t < (prL kd).length) : (prL kd)[t] = (((fromL kd t).1 : Int), ((fromL kd t).2 : Int)) := by
  rcases hk with rfl | rfl
  · have h6 : (prL 1).length = 6 := by decide
    rw [h6] at h
    rcases (by omega : t = 0 ∨ t = 1 ∨ t = 2 ∨ t = 3 ∨ t = 4 ∨ t = 5) with rfl | rfl | rfl | rfl | rfl | rfl <;> rfl
  · have h6 : (prL 2).length = 3 := by decide
    rw [h6] at h
    rcases (by omega : t = 0 ∨ t = 1 ∨ t = 2) with rfl | rfl | rfl <;> rfl
/-- A subdivision in a variable. -/
structure SC (w : World) (B : Nat) (kd : Int) (ta : Option Addr) (nt tc : Nat) (tops : List Int) (pa : Option Addr) (np pc : Nat) (paths : List (List Int)) : Prop where
  c0 : w.cell? ⟨B, 0, none⟩ = some (.int .i64 kd)
  c1 : w.cell? ⟨B, 1, none⟩ = some (.slice ta nt tc)
  c2 : w.cell? ⟨B, 2, none⟩ = some (.slice pa np pc)
  ts : IAt w ta tops
  at_ : LLAt w pa paths
theorem SC.on {w w' : World} {B : Nat} {kd : Int} {ta : Option Addr} {nt tc : Nat} {tops : List Int} {pa : Option Addr} {np pc : Nat} {paths : List (List Int)} (h : SC w B kd ta nt tc tops pa np pc paths) (hb : Below w.heap.size w w') : SC w' B kd ta nt tc tops pa np pc paths :=
  ⟨(hb.cell (p := ⟨B, 0, none⟩) (block_lt_of_cell h.c0)).trans h.c0, (hb.cell (p := ⟨B, 1, none⟩) (block_lt_of_cell h.c1)).trans h.c1, (hb.cell (p := ⟨B, 2, none⟩) (block_lt_of_cell h.c2)).trans h.c2, h.ts.below hb, h.at_.below hb⟩
theorem sc_new {w : World} {kd : Int} {ta : Option Addr} {nt tc : Nat} {tops : List Int} {pa : Option Addr} {np pc : Nat} {paths : List (List Int)} {T : TypeId} (h : IAt w ta tops) (k : LLAt w pa paths) : SC (w.alloc (.cells #[.int .i64 kd, .slice ta nt tc, .slice pa np pc] T)) w.heap.size kd ta nt tc tops pa np pc paths :=
  ⟨by rw [cell_of_heap (heap_alloc_new w _)]; rfl, by rw [cell_of_heap (heap_alloc_new w _)]; rfl, by rw [cell_of_heap (heap_alloc_new w _)]; rfl, h.below (below_one _ _), k.below (below_one _ _)⟩

set_option maxHeartbeats 2000000 in
set_option maxRecDepth 100000 in
theorem formed_any (kd : Int) (ta : Option Addr) (nt tc : Nat) (pa : Option Addr) (pc : Nat) (paths : List (List Int)) (r : Bool) (w : World) (hN : paths.length ≤ 1000000) (hL : LLAt w pa paths) (hr : r = true ↔ Formed kd nt paths) :
    Calls Try.prog 33 #[.agg #[.int .i64 kd, .slice ta nt tc, .slice pa paths.length pc]] w fun e w' => e = .returned (.bool r) ∧ Below w.heap.size w w' := by
  obtain ⟨M, hM⟩ := ex_eq paths.length
  obtain ⟨V, hV⟩ := ex_eq (w.alloc (.cells #[.int .i64 kd, .slice ta nt tc, .slice pa M pc] 32))
  have hbV : Below w.heap.size w V := by rw [hV]; exact below_one _ _
  have HSC : Hid (∀ X, Below V.heap.size V X → (X.cell? ⟨w.heap.size, 0, none⟩ = some (.int .i64 kd) ∧ X.cell? ⟨w.heap.size, 1, none⟩ = some (.slice ta nt tc) ∧ X.cell? ⟨w.heap.size, 2, none⟩ = some (.slice pa M pc)) ∧ LLAt X pa paths ∧ Below w.heap.size w X) := fun X hX => by
    have h1 : SC V w.heap.size kd ta nt tc [] pa M pc paths := by rw [hV]; exact sc_new (iat_nil _ _) hL
    have h2 := h1.on hX
    exact ⟨⟨h2.c0, h2.c1, h2.c2⟩, h2.at_, hbV.trans (hX.mono hbV.size)⟩
  have CP := hid (tpat_any kd V)
  obtain ⟨r2, hr2⟩ := boolR_of (∀ L ∈ paths, (2 : Int) ≤ L.length)
  have CA : Hid (∀ X, Below V.heap.size V X → Calls Try.prog 37 #[.int .i64 2, .slice pa M pc] X fun e w' => e = .returned (.bool r2) ∧ Below X.heap.size X w') := fun X hX => by
    rw [hM]; exact allHave_any 2 pa pc paths r2 X hN (HSC.out X hX).2.1 hr2
  have HV := hid hV
  have HR := hid hr
  have HR2 := hid hr2
  have HM := hid hM
  obtain ⟨T, hT⟩ := ex_eq (topN kd)
  obtain ⟨P, hP⟩ := ex_eq (prL kd).length
  rw [← hT, ← hP] at CP
  have HTP : Hid ((kd = 1 ∨ kd = 2) ∧ 0 < T ∧ T = (if kd = 1 then 4 else 2) ∧ P = (if kd = 1 then 6 else 3) ∨ T = 0 ∧ ¬ (kd = 1 ∨ kd = 2)) := by
    by_cases hk : kd = 1 ∨ kd = 2
    · refine Or.inl ⟨hk, ?_, by rw [hT, topN_eq hk], by rw [hP, prL_len hk]⟩
      rw [hT, topN_eq hk]; split <;> omega
    · refine Or.inr ⟨?_, hk⟩
      rw [hT]; unfold topN; rw [if_neg (fun e => hk (Or.inl e)), if_neg (fun e => hk (Or.inr e))]
  obtain ⟨⟨x0, x1, x2⟩, _, _⟩ := HSC.out V (Below.refl _ _)
  rw [← hM]
  clear hN hL hr hr2 hM hV hbV hT hP
  go_enter Try.func33, Try.ntmps33
  go_upto_region 1 with fail
  rw [← HV.out]
  go_wp2_with fail
  refine CP.out.mono ?_
  rintro e w1 ⟨a1, c1, rfl, _, hb1⟩
  obtain ⟨⟨y0, y1, y2⟩, _, hbw⟩ := HSC.out w1 hb1
  have HB1 := hid hb1
  have HBW := hid hbw
  have hsz : w.heap.size < w1.heap.size := block_lt_of_cell y0
  clear CP hb1 hbw x0 x1 x2
  rcases HTP.out with ⟨hk, hT0, hT1, hP1⟩ | ⟨hT0, hk⟩
  · have q0 : (0 : Int) < (T : Int) := by omega
    have HK := hid hk
    have HT1 := hid hT1
    have HP1 := hid hP1
    clear hk hT1 hP1
    by_cases hnt : nt = T
    · subst hnt
      by_cases hnp : M = P
      · subst hnp
        have CA1 := hid (CA.out w1 HB1.out)
        have HFIN : Hid (r2 = r) := by
          cases r with
          | true =>
            exact HR2.out.2 (fun L hL => by have := (HR.out.1 rfl).2.2.2 L hL; omega)
          | false =>
            cases r2 with
            | false => rfl
            | true =>
              have : false = true := HR.out.2 ⟨HK.out, HT1.out, by rw [← HM.out]; exact HP1.out, fun L hL => by have := HR2.out.1 rfl L hL; omega⟩
              cases this
        clear CA
        go_wp2_with fail
        refine CA1.out.mono ?_
        rintro e w2 ⟨rfl, hb2⟩
        have HF := hid (HBW.out.trans (hb2.mono HBW.out.size))
        clear CA1 hb2 y0 y1 y2
        go_wp2
        go_ret
        exact ⟨by rw [HFIN.out]; rfl, HF.out⟩
      · have hnp2 : ((M : Int) == (P : Int)) = false := by simp; omega
        have HFIN : Hid (r = false) := by
          cases r with
          | false => rfl
          | true =>
            have h := (HR.out.1 rfl).2.2.1
            exact absurd (HM.out.trans (h.trans HP1.out.symm)) hnp
        have hnp3 : ¬ (M : Int) = (P : Int) := by omega
        clear CA HM
        go_wp2
        go_ret
        exact ⟨by rw [HFIN.out]; rfl, HBW.out⟩
    · have hnt2 : ((nt : Int) == (T : Int)) = false := by simp; omega
      have HFIN : Hid (r = false) := by
        cases r with
        | false => rfl
        | true => exact absurd ((HR.out.1 rfl).2.1.trans HT1.out.symm) hnt
      have hnt3 : ¬ (nt : Int) = (T : Int) := by omega
      clear CA HM
      go_wp2
      go_ret
      exact ⟨by rw [HFIN.out]; rfl, HBW.out⟩
  · subst hT0
    have HFIN : Hid (r = false) := by
      cases r with
      | false => rfl
      | true => exact absurd (HR.out.1 rfl).1 hk
    clear CA HM
    go_wp2
    go_ret
    exact ⟨by rw [HFIN.out]; rfl, HBW.out⟩
end Go.Proofs.Ytckcbaegehfkoaa
namespace Go.Proofs.Ytckcbaegehfkoaa

/-- Each number below n leads to one of its class, and rk falls on the way; of each class just one leads to itself. -/
structure Leads (n : Nat) (f L rk : Nat → Nat) : Prop where
  lt : ∀ a, a < n → L a < n
  cls : ∀ a, a < n → f (L a) = f a
  down : ∀ a, a < n → L a ≠ a → rk (L a) < rk a
  one : ∀ a b, a < n → b < n → L a = a → L b = b → f a = f b → a = b
theorem Leads.top {n : Nat} {f L rk : Nat → Nat} (h : Leads n f L rk) : ∀ k a, rk a ≤ k → a < n → ∃ t, t < n ∧ L t = t ∧ f t = f a
  | 0, a, hk, ha => by
    by_cases e : L a = a
    · exact ⟨a, ha, e, rfl⟩
    · have := h.down a ha e; omega
  | k + 1, a, hk, ha => by
    by_cases e : L a = a
    · exact ⟨a, ha, e, rfl⟩
    · have := h.down a ha e
      obtain ⟨t, h1, h2, h3⟩ := h.top k (L a) (by omega) (h.lt a ha)
      exact ⟨t, h1, h2, h3.trans (h.cls a ha)⟩
/-- rt tells who stands for each one's class. -/
def Tops (n : Nat) (f L rt : Nat → Nat) : Prop := ∀ a, a < n → rt a < n ∧ L (rt a) = rt a ∧ f (rt a) = f a
theorem Leads.tops {n : Nat} {f L rk : Nat → Nat} (h : Leads n f L rk) : ∃ rt, Tops n f L rt := by
  have := Classical.axiomOfChoice (r := fun a t => a < n → t < n ∧ L t = t ∧ f t = f a) (fun a => by
    by_cases ha : a < n
    · obtain ⟨t, ht⟩ := h.top (rk a) a (Nat.le_refl _) ha; exact ⟨t, fun _ => ht⟩
    · exact ⟨0, fun h => absurd h ha⟩)
  exact this
theorem Tops.at {n : Nat} {f L rk rt : Nat → Nat} (h : Tops n f L rt) (hl : Leads n f L rk) {a t : Nat} (ha : a < n) (ht : t < n) (h1 : L t = t) (h2 : f t = f a) : t = rt a :=
  hl.one _ _ ht (h a ha).1 h1 (h a ha).2.1 (h2.trans (h a ha).2.2.symm)
theorem Tops.same {n : Nat} {f L rk rt : Nat → Nat} (h : Tops n f L rt) (hl : Leads n f L rk) {a b : Nat} (ha : a < n) (hb : b < n) : rt a = rt b ↔ f a = f b :=
  ⟨fun e => by rw [← (h a ha).2.2, ← (h b hb).2.2, e], fun e => h.at hl hb (h a ha).1 (h a ha).2.1 ((h a ha).2.2.trans e)⟩
/-- Two classes made one. -/
theorem Leads.join {n : Nat} {f L rk : Nat → Nat} (h : Leads n f L rk) {a b s t : Nat} (hs : s < n) (ht : t < n) (lt : L t = t) (fs : f s = f a) (ft : f t = f b) (hne : f a ≠ f b) :
    Leads n (joinF f a b) (fun j => if j = t then s else L j) (fun j => if f j = f t then rk j + rk s + 1 else rk j) := by
  have hst : s ≠ t := fun e => hne (by rw [← fs, ← ft, e])
  have hfst : f s ≠ f t := by rw [fs, ft]; exact hne
  refine ⟨fun j hj => ?_, fun j hj => ?_, fun j hj => ?_, fun i j hi hj => ?_⟩
  · by_cases e : j = t
    · simp only [e, if_true]; exact hs
    · simp only [e, if_false]; exact h.lt j hj
  · by_cases e : j = t
    · simp only [e, if_true]
      exact (joinF_same _ _ _ _ _).2 (Or.inr (Or.inl ⟨fs, ft⟩))
    · simp only [e, if_false]
      exact (joinF_same _ _ _ _ _).2 (Or.inl (h.cls j hj))
  · by_cases e : j = t
    · subst e
      simp only [if_true, hfst, if_false]
      intro _; omega
    · simp only [e, if_false]
      intro hlj
      have hd := h.down j hj hlj
      have hc := h.cls j hj
      rw [hc]
      by_cases e2 : f j = f t
      · simp only [e2, if_true]; omega
      · simp only [e2, if_false]; exact hd
  · by_cases e : i = t
    · simp only [e, if_true]; intro h1; exact absurd h1 hst
    · by_cases e2 : j = t
      · simp only [e2, if_true]; intro _ h1; exact absurd h1 hst
      · simp only [e, e2, if_false]
        intro h1 h2 h3
        rcases (joinF_same _ _ _ _ _).1 h3 with h4 | ⟨h4, h5⟩ | ⟨h4, h5⟩
        · exact h.one i j hi hj h1 h2 h4
        · exact absurd (h.one j t hj ht h2 lt (h5.trans ft.symm)) e2
        · exact absurd (h.one i t hi ht h1 lt (h4.trans ft.symm)) e
end Go.Proofs.Ytckcbaegehfkoaa
namespace Go.Proofs.Ytckcbaegehfkoaa
open Go.RowKit Go.Lib

/-- A list of rows in memory, all of them in blocks of A. -/
def LLIn (w : World) (A : Nat → Prop) (a : Option Addr) (LL : List (List Int)) : Prop :=
  0 < LL.length → ∃ g off, a = some ⟨g, off, none⟩ ∧ g < w.heap.size ∧ A g ∧ ∀ k (hk : k < LL.length), ∃ ak ck, w.cell? ⟨g, off + k, none⟩ = some (.slice ak LL[k].length ck) ∧ IAt w ak LL[k] ∧ ∀ g off, ak = some ⟨g, off, none⟩ → 0 < LL[k].length → A g
theorem LLIn.at {w : World} {A : Nat → Prop} {a : Option Addr} {LL : List (List Int)} (h : LLIn w A a LL) : LLAt w a LL := fun h0 => by
  obtain ⟨g, off, ha, hg, _, hc⟩ := h h0
  exact ⟨g, off, ha, hg, fun k hk => by obtain ⟨ak, ck, h1, h2, _⟩ := hc k hk; exact ⟨ak, ck, h1, h2⟩⟩
theorem LLIn.kept {w w' : World} {A T : Nat → Prop} {a : Option Addr} {LL : List (List Int)} (h : LLIn w A a LL) (hk : KeptBut T w w') (hs : ∀ k, A k → k < w.heap.size → ¬ T k) : LLIn w' A a LL := fun h0 => by
  obtain ⟨g, off, ha, hg, hA, hc⟩ := h h0
  refine ⟨g, off, ha, Nat.lt_of_lt_of_le hg hk.size, hA, fun k hk' => ?_⟩
  obtain ⟨ak, ck, h1, h2, h3⟩ := hc k hk'
  refine ⟨ak, ck, (hk.cell (p := ⟨g, off + k, none⟩) hg (hs g hA hg)).trans h1, h2.kept hk (fun g' off' e h0' => hs g' (h3 g' off' e h0') ?_), h3⟩
  obtain ⟨g2, off2, e2, hg2, _⟩ := h2 h0'
  rw [e] at e2
  cases e2
  exact hg2
theorem LLIn.below {w w' : World} {A : Nat → Prop} {a : Option Addr} {LL : List (List Int)} (h : LLIn w A a LL) (hb : Below w.heap.size w w') : LLIn w' A a LL := h.kept (KeptBut.of_whole (fun _ => False) hb) (fun _ _ _ e => e)
theorem LLIn.mono {w : World} {A A' : Nat → Prop} {a : Option Addr} {LL : List (List Int)} (h : LLIn w A a LL) (hA : ∀ k, A k → A' k) : LLIn w A' a LL := fun h0 => by
  obtain ⟨g, off, ha, hg, hAg, hc⟩ := h h0
  refine ⟨g, off, ha, hg, hA g hAg, fun k hk => ?_⟩
  obtain ⟨ak, ck, h1, h2, h3⟩ := hc k hk
  exact ⟨ak, ck, h1, h2, fun g off e h0 => hA g (h3 g off e h0)⟩
theorem LLOwn.in {w : World} {base : Nat} {A : Nat → Prop} {v : Value} {us : List Value} {LL : List (List Int)} (h : LLOwn w base A v us LL) : ∃ a cap, v = .slice a LL.length cap ∧ LLIn w A a LL := by
  obtain ⟨a, cap, hv, hsl⟩ := sl_own h.1
  refine ⟨a, cap, hv, fun h0 => ?_⟩
  obtain ⟨g, cap', hv', hb, hg, hc, hcs⟩ := own_row h.1 h0
  rw [hv] at hv'
  simp only [Value.slice.injEq, true_and] at hv'
  refine ⟨g, 0, hv'.1, hg, h.2.2.1 g (by rw [hv, hv'.1]; rfl), fun k hk => ?_⟩
  obtain ⟨ak, ck, h1, h2, h3⟩ := h.2.2.2 k hk
  exact ⟨ak, ck, by rw [Nat.zero_add]; exact hcs k _ h1, h2, fun g off e h0 => (h3 g off e h0).1⟩

/-- What a call on a part leaves: the part with its classes f, in blocks that it had or that are new; all else as it was. -/
def PNext (PA : World → Addr → Nat → (Nat → Nat) → (Nat → Prop) → Prop) (S : Nat → Prop) (w w' : World) (p : Addr) (n : Nat) (f : Nat → Nat) : Prop :=
  ∃ S', PA w' p n f S' ∧ (∀ k, S' k → S k ∨ w.heap.size ≤ k) ∧ KeptBut S w w'
theorem LLIn.cell {w : World} {A : Nat → Prop} {a : Option Addr} {LL : List (List Int)} (h : LLIn w A a LL) {k : Nat} (hk : k < LL.length) : ∃ g off ak ck, a = some ⟨g, off, none⟩ ∧ w.cell? ⟨g, off + k, none⟩ = some (.slice ak LL[k].length ck) ∧ IAt w ak LL[k] := h.at.at hk
/-- What a call on a part leaves, over the world of the law. -/
theorem PNext.step {PA : World → Addr → Nat → (Nat → Nat) → (Nat → Prop) → Prop} {S : Nat → Prop} {u w w' : World} {p : Addr} {n b0 : Nat} {f : Nat → Nat} (h : PNext PA S w w' p n f) (hS : ∀ k, S k → b0 ≤ k) (hb : Below b0 u w) (h0 : b0 ≤ w.heap.size) :
    ∃ S', PA w' p n f S' ∧ (∀ k, S' k → b0 ≤ k) ∧ Below b0 u w' ∧ KeptBut S w w' ∧ (∀ k, S' k → S k ∨ w.heap.size ≤ k) := by
  obtain ⟨S', h1, h2, h3⟩ := h
  exact ⟨S', h1, fun k hk => (h2 k hk).elim (hS k) (fun e => by omega), hb.trans (h3.below h0 (fun k _ e => hS k e)), h3, h2⟩

end Go.Proofs.Ytckcbaegehfkoaa
namespace Go.Proofs.Ytckcbaegehfkoaa
open Go.RowKit Go.Lib

/-- A part of the program's: a variable with a row of leads, and how many classes there are. -/
structure LAt (w : World) (b g n : Nat) (L : Nat → Nat) (c : Nat) : Prop where
  box : w.cell? ⟨b, 0, none⟩ = some (.slice (some ⟨g, 0, none⟩) n n)
  cnt : w.cell? ⟨b, 1, none⟩ = some (.int .i64 c) ∧ w.frozen? ⟨b, 1, none⟩ = false
  row : Row1 w g n (fun i => (L i : Int))
  ne : g ≠ b
theorem LAt.kept {S : Nat → Prop} {w w' : World} {b g n : Nat} {L : Nat → Nat} {c : Nat} (h : LAt w b g n L c) (hk : KeptBut S w w') (hb : ¬ S b) (hg : ¬ S g) : LAt w' b g n L c := by
  have hlt := block_lt_of_cell h.box
  refine ⟨(hk.cell (p := ⟨b, 0, none⟩) hlt hb).trans h.box, ⟨(hk.cell (p := ⟨b, 1, none⟩) hlt hb).trans h.cnt.1, (hk.frozen (p := ⟨b, 1, none⟩) hlt hb).trans h.cnt.2⟩, ?_, h.ne⟩
  exact ⟨Nat.lt_of_lt_of_le h.row.1 hk.size, fun j hj => ⟨(hk.cell (p := ⟨g, j, none⟩) h.row.1 hg).trans (h.row.2 j hj).1, (hk.frozen (p := ⟨g, j, none⟩) h.row.1 hg).trans (h.row.2 j hj).2⟩⟩
theorem LAt.put {w : World} {b g n : Nat} {L : Nat → Nat} {c : Nat} (h : LAt w b g n L c) {i : Nat} (hi : i < n) (x : Nat) : LAt (w.setCell ⟨g, i, none⟩ (.int .i64 x)) b g n (fun j => if j = i then x else L j) c := by
  have ho : ∀ q, (w.setCell ⟨g, i, none⟩ (.int .i64 x)).cell? ⟨b, q, none⟩ = w.cell? ⟨b, q, none⟩ := fun q => World.cell?_setCell_other _ _ _ _ (fun e => h.ne (congrArg Addr.block e))
  exact ⟨(ho 0).trans h.box, ⟨(ho 1).trans h.cnt.1, by rw [World.frozen?_setCell]; exact h.cnt.2⟩, (h.row.put hi (x : Int)).congr (fun j _ => by by_cases e : j = i <;> simp [e]), h.ne⟩
theorem LAt.congr {w : World} {b g n : Nat} {L L' : Nat → Nat} {c : Nat} (h : LAt w b g n L c) (e : ∀ j, j < n → L j = L' j) : LAt w b g n L' c := ⟨h.box, h.cnt, h.row.congr (fun j hj => by rw [e j hj]), h.ne⟩
theorem LAt.at {w : World} {b g n : Nat} {L : Nat → Nat} {c : Nat} (h : LAt w b g n L c) {k : Nat} (hk : k < n) : w.cell? ⟨g, k, none⟩ = some (.int .i64 (L k)) ∧ w.frozen? ⟨g, k, none⟩ = false := h.row.2 k hk
theorem LAt.drew {w : World} {b g n : Nat} {L : Nat → Nat} {c : Nat} (h : LAt w b g n L c) : LAt w.drew b g n L c := ⟨h.box, h.cnt, h.row, h.ne⟩

/-- A part of the program's with its classes f, and who stands for each. -/
def PX (w : World) (b g n : Nat) (f rt : Nat → Nat) (c : Nat) : Prop := ∃ L rk, LAt w b g n L c ∧ Leads n f L rk ∧ Tops n f L rt
theorem PX.kept {S : Nat → Prop} {w w' : World} {b g n : Nat} {f rt : Nat → Nat} {c : Nat} (h : PX w b g n f rt c) (hk : KeptBut S w w') (hb : ¬ S b) (hg : ¬ S g) : PX w' b g n f rt c := by
  obtain ⟨L, rk, h1, h2, h3⟩ := h
  exact ⟨L, rk, h1.kept hk hb hg, h2, h3⟩
/-- What head leaves. -/
def HeadIs (b g n : Nat) (f rt : Nat → Nat) (c : Nat) (w w' : World) : Prop := PX w' b g n f rt c ∧ KeptBut (fun k => k = g) w w' ∧ w'.heap.size = w.heap.size

end Go.Proofs.Ytckcbaegehfkoaa
namespace Go.Proofs.Ytckcbaegehfkoaa
open Go.RowKit Go.Lib

theorem PX.lt {w : World} {b g n : Nat} {f rt : Nat → Nat} {c : Nat} (h : PX w b g n f rt c) : b < w.heap.size ∧ g < w.heap.size ∧ g ≠ b := by
  obtain ⟨L, rk, h1, _⟩ := h
  exact ⟨block_lt_of_cell h1.box, h1.row.1, h1.ne⟩
theorem HeadIs.trans {b g n : Nat} {f rt : Nat → Nat} {c : Nat} {w w1 w2 : World} (h : HeadIs b g n f rt c w w1) (k : HeadIs b g n f rt c w1 w2) : HeadIs b g n f rt c w w2 := ⟨k.1, h.2.1.trans k.2.1, k.2.2.trans h.2.2⟩
theorem PX.box {w : World} {b g n : Nat} {f rt : Nat → Nat} {c : Nat} (h : PX w b g n f rt c) : w.cell? ⟨b, 0, none⟩ = some (.slice (some ⟨g, 0, none⟩) n n) := by
  obtain ⟨L, rk, h1, _⟩ := h
  exact h1.box
theorem PX.same {w : World} {b g n : Nat} {f rt : Nat → Nat} {c : Nat} (h : PX w b g n f rt c) {x y : Nat} (hx : x < n) (hy : y < n) : rt x = rt y ↔ f x = f y := by
  obtain ⟨L, rk, h1, h2, h3⟩ := h
  exact h3.same h2 hx hy
end Go.Proofs.Ytckcbaegehfkoaa
namespace Go.Proofs.Ytckcbaegehfkoaa
open Go.RowKit Go.Lib Go.Maps Go.ChangeShapes

theorem keyI : Keyed Try.prog 3 := int_keyed Try.underlying3
theorem KeptBut.grown {g : Nat} {w w' : World} (h : KeptBut (fun k => k = g) w w') : w.grownBy w' (some g) := ⟨h.os, h.tape, h.output, h.size, fun i hi hne => h.block i hi (fun e => hne (by rw [e]))⟩
theorem KeptBut.one {w w' : World} {row : Option Nat} {B : Nat} (h : w.grownBy w' row) (hr : ∀ j, row = some j → B ≤ j) : KeptBut (fun k => B ≤ k) w w' := ⟨h.os, h.tape, h.output, h.size, fun i hi hne => h.block i hi (fun e => hne (hr i e.symm))⟩

end Go.Proofs.Ytckcbaegehfkoaa
