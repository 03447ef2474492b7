/-
  The document's Normal, by rows: what stands above each vertex.
  append onto a row of the call's own, of a slice that may be nil: as a step of a region that draws its order, and in a plain one.
  The document's parts (layer 4) in memory: New, Is, Same, Count, Join.
  Lists of rows in memory; the document's SameRows.
  What the laws of layer 5 ask of the program's walks: a row of contracts.
-/
import Derived.Test.YtlebimolgienkaaW04
import Derived.Test.YtlebimolgienkaaW01
import Derived.Deep.OwnRows
import Derived.Deep.AppendLies
import Derived.Deep.RegionLaw
import Derived.Test.YtlebimolgienkaaW02
import Derived.Laws.AppendOwnNone
import Derived.Test.YtlebimolgienkaaW03
import Derived.Deep.LoopGhost
import Derived.Deep.RegionHeld3
import Derived.BigQuiet
namespace Go.Proofs.Ytlebimolgienkaa
open Go.RowKit Go.Lib

theorem Try.info28 : (Try.prog.info? 28).map (fun i => (i.zero, i.size, i.bytes)) = some (some (.slice none 0 0), 1, 24) := by kernel_rfl

/-- The rows tell the pairs of the edges so far. -/
def RInv (n : Nat) (l : List (Int × Int)) (R : Nat → List Int) : Prop := ∀ v, v < n → (R v).Nodup ∧ (R v).length ≤ l.length ∧ ∀ x, x ∈ R v ↔ ((v : Int), x) ∈ prs l
theorem rinv_nil (n : Nat) : RInv n [] (fun _ => []) := fun v _ => ⟨List.nodup_nil, Nat.le_refl _, fun x => by simp [prs_nil]⟩
theorem rinv_skip {n : Nat} {l : List (Int × Int)} {R : Nat → List Int} {e : Int × Int} (h : RInv n l R) (he : e.1 = e.2) : RInv n (l ++ [e]) R := fun v hv => by
  obtain ⟨h1, h2, h3⟩ := h v hv
  exact ⟨h1, by simp; omega, fun x => by rw [prs_snoc, prs_same he, List.append_nil]; exact h3 x⟩
theorem rinv_has {n lo : Nat} {l : List (Int × Int)} {R : Nat → List Int} {e : Int × Int} (h : RInv n l R) (he : e.1 ≠ e.2) (hlo : (lo : Int) = min e.1 e.2) (hn : lo < n) (hm : max e.1 e.2 ∈ R lo) : RInv n (l ++ [e]) R := fun v hv => by
  obtain ⟨h1, h2, h3⟩ := h v hv
  refine ⟨h1, by simp; omega, fun x => ?_⟩
  rw [prs_snoc, prs_one he, List.mem_append, h3 x, List.mem_singleton]
  refine ⟨Or.inl, fun hx => hx.elim id fun hx => ?_⟩
  rw [hx, ← hlo]
  exact ((h lo hn).2.2 _).1 hm
theorem rinv_put {n lo : Nat} {l : List (Int × Int)} {R : Nat → List Int} {e : Int × Int} (h : RInv n l R) (he : e.1 ≠ e.2) (hlo : (lo : Int) = min e.1 e.2) (hn : lo < n) (hm : max e.1 e.2 ∉ R lo) : RInv n (l ++ [e]) (fun j => if j = lo then R lo ++ [max e.1 e.2] else R j) := fun v hv => by
  show (if v = lo then _ else _ : List Int).Nodup ∧ (if v = lo then _ else _ : List Int).length ≤ _ ∧ ∀ x, x ∈ (if v = lo then _ else _ : List Int) ↔ _
  by_cases e1 : v = lo
  · subst e1
    obtain ⟨h1, h2, h3⟩ := h v hv
    rw [if_pos rfl]
    refine ⟨?_, by simp; omega, fun x => ?_⟩
    · rw [List.nodup_append]
      refine ⟨h1, by simp, fun a ha b hb => ?_⟩
      simp at hb
      subst hb
      intro hab
      subst hab
      exact hm ha
    · rw [prs_snoc, prs_one he, List.mem_append, List.mem_append, h3 x, List.mem_singleton, List.mem_singleton, ← hlo]
      simp
  · obtain ⟨h1, h2, h3⟩ := h v hv
    rw [if_neg e1]
    refine ⟨h1, by simp; omega, fun x => ?_⟩
    rw [prs_snoc, prs_one he, List.mem_append, h3 x, List.mem_singleton, ← hlo]
    refine ⟨Or.inl, fun hx => hx.elim id fun hx => ?_⟩
    simp only [Prod.mk.injEq] at hx
    exact absurd (by omega) e1

/-- The edges out of the rows. -/
def ER (v : Nat) (R : Nat → List Int) : List (Int × Int) := (srt [] (R v)).map (fun x => ((v : Int), x))
def ES (n : Nat) (R : Nat → List Int) : List (Int × Int) := (List.range n).flatMap (fun v => ER v R)
theorem es_succ (n : Nat) (R : Nat → List Int) : ES (n + 1) R = ES n R ++ ER n R := by simp [ES, List.range_succ]
theorem er_len (v : Nat) (R : Nat → List Int) : (ER v R).length = (srt [] (R v)).length := by simp [ER]
theorem es_mem {n : Nat} {R : Nat → List Int} {e : Int × Int} : e ∈ ES n R ↔ ∃ v, v < n ∧ e.1 = (v : Int) ∧ e.2 ∈ R v := by
  unfold ES ER
  simp only [List.mem_flatMap, List.mem_range, List.mem_map]
  constructor
  · rintro ⟨v, hv, x, hx, rfl⟩
    exact ⟨v, hv, rfl, by simpa [srt_mem] using hx⟩
  · rintro ⟨v, hv, h1, h2⟩
    exact ⟨v, hv, e.2, by simpa [srt_mem] using h2, by rw [← h1]⟩
theorem up_strict {xs : List Int} (h : Up xs) (hn : xs.Nodup) : xs.Pairwise (· < ·) := by
  unfold Up at h
  have := h.and hn
  exact this.imp (fun ⟨h1, h2⟩ => by omega)
theorem ins_nodup {x : Int} {ys : List Int} (h : ys.Nodup) (hx : x ∉ ys) : (ins x ys).Nodup := by
  induction ys with
  | nil => simp [ins]
  | cons y ys ih =>
    rw [List.nodup_cons] at h
    simp only [List.mem_cons, not_or] at hx
    unfold ins
    split
    · rw [List.nodup_cons]
      refine ⟨fun hm => ?_, ih h.2 hx.2⟩
      rcases ins_mem.1 hm with hm | hm
      · exact hx.1 hm.symm
      · exact h.1 hm
    · rw [List.nodup_cons, List.nodup_cons]
      exact ⟨by simp [hx.1, hx.2], h⟩
theorem srt_nodup {acc xs : List Int} (h : (acc ++ xs).Nodup) : (srt acc xs).Nodup := by
  induction xs generalizing acc with
  | nil => simpa [srt] using h
  | cons y xs ih =>
    rw [List.nodup_append] at h
    obtain ⟨h1, h2, h3⟩ := h
    rw [List.nodup_cons] at h2
    refine ih ?_
    rw [List.nodup_append]
    refine ⟨ins_nodup h1 (fun hy => h3 y hy y (by simp) rfl), h2.2, fun a ha b hb => ?_⟩
    rcases ins_mem.1 ha with rfl | ha
    · intro e; subst e; exact h2.1 hb
    · exact h3 a ha b (by simp [hb])
theorem es_rises {n : Nat} {R : Nat → List Int} (h : ∀ v, v < n → (R v).Nodup) : Rises (ES n R) := by
  induction n with
  | zero => exact rises_nil
  | succ n ih =>
    rw [es_succ]
    unfold Rises
    rw [List.pairwise_append]
    refine ⟨ih (fun v hv => h v (by omega)), ?_, fun a ha b hb => ?_⟩
    · unfold ER
      rw [List.pairwise_map]
      refine (up_strict (srt_up (by unfold Up; simp)) (srt_nodup (by simpa using h n (by omega)))).imp (fun {a b} hab => ?_)
      rw [ltE_iff]; exact Or.inr ⟨rfl, hab⟩
    · obtain ⟨v, hv, h1, _⟩ := es_mem.1 ha
      unfold ER at hb
      obtain ⟨x, _, rfl⟩ := List.mem_map.1 hb
      rw [ltE_iff, h1]; exact Or.inl (by simpa using hv)
theorem es_norm {n : Nat} {l : List (Int × Int)} {R : Nat → List Int} (h : RInv n l R) (hl : AllIn n l) : IsNorm l (ES n R) := by
  refine ⟨es_rises (fun v hv => (h v hv).1), fun e => ?_⟩
  rw [es_mem]
  constructor
  · rintro ⟨v, hv, h1, h2⟩
    have := ((h v hv).2.2 e.2).1 h2
    rwa [← h1] at this
  · intro he
    obtain ⟨d, hd, hne, rfl⟩ := mem_prs.1 he
    have hd' := hl d hd
    refine ⟨(min d.1 d.2).toNat, by omega, by simp; omega, ?_⟩
    refine ((h _ (by omega)).2.2 _).2 ?_
    rwa [show ((min d.1 d.2).toNat : Int) = min d.1 d.2 by omega]
theorem es_le {n a : Nat} (R : Nat → List Int) (h : a ≤ n) : (ES a R).length ≤ (ES n R).length := by
  induction n with
  | zero => obtain rfl : a = 0 := by omega
            exact Nat.le_refl _
  | succ n ih =>
    by_cases e : a = n + 1
    · subst e; exact Nat.le_refl _
    · rw [es_succ, List.length_append]
      have := ih (by omega); omega
/-- Part of a row's edges. -/
theorem er_take {v : Nat} {R : Nat → List Int} {i : Nat} (h : i < (srt [] (R v)).length) : (ER v R).take (i + 1) = (ER v R).take i ++ [((v : Int), (srt [] (R v))[i])] := by
  rw [List.take_succ_eq_append_getElem (by rw [er_len]; exact h)]
  simp [ER]

/-- The rows in memory, each in a block of its own. -/
structure UpAt (w : World) (g base n : Nat) (u : Nat → Value) (R : Nat → List Int) : Prop where
  lt : g < base
  bs : base ≤ w.heap.size
  row : w.rowIs g 28 n u
  own : ∀ v, v < n → w.ownsRow base 3 1 (u v) (R v).length ((R v).map (Value.int .i64))
  apart : ∀ v v', v < n → v' < n → v ≠ v' → (u v).ownBlock = none ∨ (u v).ownBlock ≠ (u v').ownBlock
theorem own_set {w : World} {base e size n : Nat} {v : Value} {xs : List Value} {p : Addr} (h : w.ownsRow base e size v n xs) (hp : p.block < base) (x : Value) : (w.setCell p x).ownsRow base e size v n xs := by
  refine ⟨h.1, ?_⟩
  rcases h.2 with hn | ⟨g, cap, cur, rfl, hb, hgg, rest⟩
  · exact .inl hn
  · exact .inr ⟨g, cap, cur, rfl, hb, by rw [Deep.blk_setCell_other _ _ _ _ (by omega)]; exact hgg, rest⟩
theorem UpAt.below {w w' : World} {g base n : Nat} {u : Nat → Value} {R : Nat → List Int} (h : UpAt w g base n u R) (hb : Below w.heap.size w w') : UpAt w' g base n u R :=
  ⟨h.lt, Nat.le_trans h.bs hb.size, h.row.of_block (hb.block _ h.row.lt), fun v hv => own_below (h.own v hv) hb, h.apart⟩
theorem UpAt.put {w w4 : World} {g base n lo : Nat} {u : Nat → Value} {R : Nat → List Int} {x : Int} {o : Obj} {g' cap' : Nat} {v' : Value} (h : UpAt w g base n u R) (hlo : lo < n) (hv' : v' = .slice (some ⟨g', 0, none⟩) ((R lo).length + 1) cap')
    (hown : w4.ownsRow base 3 1 v' ((R lo).length + 1) ((R lo).map (Value.int .i64) ++ [.int .i64 x])) (hg : (w.alloc o).grownBy w4 (u lo).ownBlock) (hat : (u lo).ownBlock = some g' ∨ g' = w.heap.size + 1) :
    UpAt (w4.setCell ⟨g, lo, none⟩ v') g base n (fun j => if j = lo then v' else u j) (fun j => if j = lo then R lo ++ [x] else R j) := by
  have hs : (w.alloc o).heap.size = w.heap.size + 1 := by simp
  have hlt := h.lt
  have hbs := h.bs
  have hgl := h.row.lt
  have hob : v'.ownBlock = some g' := by rw [hv']; rfl
  have hub : ∀ j, j < n → ∀ b, (u j).ownBlock = some b → base ≤ b ∧ b < w.heap.size := fun j hj b hb => (h.own j hj).lt b hb
  have hne : some g ≠ (u lo).ownBlock := fun e => by
    have := (hub lo hlo g e.symm).1
    omega
  refine ⟨h.lt, ?_, ?_, fun v hv => ?_, fun v v2 hv hv2 hvv => ?_⟩
  · have h1 := hg.size
    have h2 : (w4.setCell ⟨g, lo, none⟩ v').heap.size = w4.heap.size := by simp
    omega
  · refine (((h.row.alloc o).of_block (hg.block g (by omega) hne)).set lo v').congr (fun i _ => rfl)
  · refine own_set ?_ (by simpa using hlt) _
    show w4.ownsRow base 3 1 (if v = lo then v' else u v) (if v = lo then R lo ++ [x] else R v).length ((if v = lo then R lo ++ [x] else R v).map (Value.int .i64))
    by_cases e : v = lo
    · subst e
      rw [if_pos rfl, if_pos rfl]
      simpa using hown
    · rw [if_neg e, if_neg e]
      exact ((h.own v hv).alloc o).kept hg (h.apart v lo hv hlo e)
  · show (if v = lo then v' else u v : Value).ownBlock = none ∨ (if v = lo then v' else u v : Value).ownBlock ≠ (if v2 = lo then v' else u v2 : Value).ownBlock
    by_cases e : v = lo
    · subst e
      rw [if_pos rfl, if_neg (fun e => hvv e.symm), hob]
      right
      rcases hat with hat | hat
      · rcases h.apart v v2 hv hv2 hvv with h1 | h1
        · rw [hat] at h1; cases h1
        · rw [← hat]; exact h1
      · intro e
        have := (hub v2 hv2 g' e.symm).2
        omega
    · rw [if_neg e]
      by_cases e2 : v2 = lo
      · subst e2
        rw [if_pos rfl, hob]
        rcases hat with hat | hat
        · rw [← hat]; exact h.apart v v2 hv hv2 hvv
        · right
          intro e3
          have := (hub v hv g' e3).2
          omega
      · rw [if_neg e2]; exact h.apart v v2 hv hv2 hvv
theorem up_made (w : World) (n : Nat) : UpAt (w.alloc (.cells (madeCells #[.slice none 0 0] n) 28)) w.heap.size (w.heap.size + 1) n (fun _ => .slice none 0 0) (fun _ => []) :=
  ⟨by omega, by simp, World.rowIs_made _ _ _ _, fun v _ => World.ownsRow_nil _ _ _ _, fun _ _ _ _ _ => Or.inl rfl⟩
theorem UpAt.iat {w : World} {g base n : Nat} {u : Nat → Value} {R : Nat → List Int} (h : UpAt w g base n u R) {v : Nat} (hv : v < n) : ∃ a cap, u v = .slice a (R v).length cap ∧ IAt w a (R v) := iat_own (h.own v hv)

/-- A graph's edges are put behind each other in its variable; a row of numbers lies elsewhere. -/
structure GAcc (w : World) (B : Nat) (m : Int) (sv : Value) (es : List (Int × Int)) (a5 : Option Addr) (S : List Int) : Prop where
  box : w.heap[B]? = some (.cells #[.int .i64 m, sv] 26 (0, 0))
  own : w.ownsRow (B + 1) 56 2 sv es.length (cellsE es)
  row : IAt w a5 S
  far : ∀ g off, 0 < S.length → a5 = some ⟨g, off, none⟩ → B < g ∧ ∀ b, sv.ownBlock = some b → b ≠ g
theorem box_put {w : World} {b : Nat} {x y v : Value} {T : TypeId} (h : w.heap[b]? = some (.cells #[x, y] T (0, 0))) : (w.setCell ⟨b, 1, none⟩ v).heap[b]? = some (.cells #[x, v] T (0, 0)) := by
  rw [heap_setCell_same w b 1 _ _ v h]; rfl
theorem GAcc.keep {w w4 : World} {B : Nat} {m : Int} {sv : Value} {es : List (Int × Int)} {a5 : Option Addr} {S : List Int} {o : Obj} (h : GAcc w B m sv es a5 S) (hg : (w.drew.alloc o).grownBy w4 sv.ownBlock) :
    w4.heap[B]? = some (.cells #[.int .i64 m, sv] 26 (0, 0)) := by
  have hB : B < w.heap.size := (Array.getElem?_eq_some_iff.1 h.box).1
  rw [hg.block B (by simp; omega) (fun e => by have := (h.own.lt B e.symm).1; omega), Below.heap_alloc w.drew _ _ hB]
  exact h.box
theorem GAcc.put {w w4 : World} {B g' cap' : Nat} {m p q : Int} {sv sv' : Value} {es : List (Int × Int)} {a5 : Option Addr} {S : List Int} {o : Obj} (h : GAcc w B m sv es a5 S) (hg : (w.drew.alloc o).grownBy w4 sv.ownBlock) (hsv : sv' = .slice (some ⟨g', 0, none⟩) (es.length + 1) cap')
    (hown : w4.ownsRow (B + 1) 56 2 sv' (es.length + 1) (cellsE es ++ [.int .i64 p, .int .i64 q])) (hat : sv.ownBlock = some g' ∨ g' = w.heap.size + 1) : GAcc (w4.setCell ⟨B, 1, none⟩ sv') B m sv' (es ++ [(p, q)]) a5 S := by
  have hs : (w.drew.alloc o).heap.size = w.heap.size + 1 := by simp
  refine ⟨box_put (h.keep hg), ?_, fun h0 => ?_, fun g off h0 ha => ⟨(h.far g off h0 ha).1, fun b hb => ?_⟩⟩
  · refine own_set ?_ (by simp) _
    rw [cellsE_append, List.length_append]
    exact hown
  · obtain ⟨g, off, ha, hlt, hc⟩ := h.row h0
    obtain ⟨h1, h2⟩ := h.far g off h0 ha
    refine ⟨g, off, ha, ?_, fun j hj => ?_⟩
    · have := hg.size
      have h3 : (w4.setCell ⟨B, 1, none⟩ sv').heap.size = w4.heap.size := by simp
      omega
    · rw [World.cell?_setCell_other _ _ _ _ (by first | (simp; done) | (simp; omega)), hg.cell_far _ (by first | (simp; done) | (simp; omega)) (fun e => h2 g e.symm rfl)]
      exact cell_alloc_old (w := w.drew) (hc j hj) _
  · obtain ⟨g1, off1, ha1, hlt, _⟩ := h.row h0
    rw [ha] at ha1
    simp only [Option.some.injEq, Addr.mk.injEq, and_true] at ha1
    rw [hsv] at hb
    simp only [Value.ownBlock, Option.some.injEq] at hb
    rcases hat with hat | hat
    · rw [← hb]; exact (h.far g off h0 ha).2 g' hat
    · omega
theorem GAcc.below {w w' : World} {B : Nat} {m : Int} {sv : Value} {es : List (Int × Int)} {a5 : Option Addr} {S : List Int} (h : GAcc w B m sv es a5 S) (hb : Below w.heap.size w w') {a6 : Option Addr} {S' : List Int} (h6 : IAt w' a6 S') (hn : ∀ g off, a6 = some ⟨g, off, none⟩ → w.heap.size ≤ g) : GAcc w' B m sv es a6 S' := by
  have hB : B < w.heap.size := (Array.getElem?_eq_some_iff.1 h.box).1
  exact ⟨(hb.block B hB).trans h.box, own_below h.own hb, h6, fun g off _ ha => ⟨by have := hn g off ha; omega, fun b hb' => by have := hn g off ha; have := (h.own.lt b hb').2; omega⟩⟩
end Go.Proofs.Ytlebimolgienkaa
namespace Go.Proofs.Ytlebimolgienkaa
open Go.RowKit Go.Lib

theorem grown_refl (w : World) (r : Option Nat) : w.grownBy w r := ⟨rfl, rfl, rfl, Nat.le_refl _, fun _ _ _ => rfl⟩

theorem wp_append_any {P : Program} (w : World) {o : Oper} {a : Act} {K : Act → World → Prop} {Q : Exit → Act → World → Prop} (s x : Operand) (t : TypeId)
    (ho : o.op = .call { callee := .builtin .append, args := #[s, x], argTypes := #[t, t] })
    (base : Nat) (e : TypeId) (i : TypeInfo) (z : Value) (size bytes : Nat) (ht : P.underlying t = some (.slice e)) (hi : P.info? e = some i) (hz : i.zero = some z)
    (hsize : i.size = size) (hby : i.bytes = bytes) (hzs : z.cells.size = size) (hsz : 0 < size)
    (v : Value) (n : Nat) (xs : List Value) (hs : a.eval s = v) (hown : w.ownsRow base e size v n xs)
    (ad : Option Addr) (m c : Nat) (news : List Value) (hx : a.eval x = .slice ad m c) (hnil : ad = none → m = 0 ∧ c = 0) (hl : news.length = m * size) (hnews : ∀ p, ad = some p → ∀ j u, news[j]? = some u → w.cell? (p.add j) = some u) (h1 : ∀ u ∈ news, u.oneCell' = true)
    (h63 : n + m ≤ maxLen) (hbytes : (n + m) * bytes ≤ 140737488355328) (hbase : base ≤ w.heap.size)
    (h : ∀ v' w', w'.ownsRow base e size v' (n + m) (xs ++ news) → w.grownBy w' v.ownBlock → (v'.ownBlock = v.ownBlock ∨ v'.ownBlock = some w.heap.size) → K (a.put o.dst v') w') : o.wp P a w K Q := by
  cases ad with
  | none =>
    obtain ⟨rfl, rfl⟩ := hnil rfl
    obtain rfl : news = [] := List.eq_nil_of_length_eq_zero (by omega)
    have hrun := run_append_owned_none (P := P) (w := w) base t o.type e i size ht hi v n xs hown
    unfold Oper.wp
    simp [execOp, ho, resolve, invoke, builtin, hs, hx, hrun, Result.andThen]
    exact h v w (by simpa using hown) (grown_refl _ _) (Or.inl rfl)
  | some p =>
    obtain ⟨v', w', hr, h2, h3, _, h5⟩ := run_append_own_at (P := P) w base t o.type e i z size bytes ht hi hz hsize hby hzs hsz v n xs hown p m c news hl (hnews p rfl) h1 h63 hbytes hbase
    unfold Oper.wp execOp
    simp only [ho, resolve, invoke, builtin, Sem.run_bind, Sem.run_pure, Result.andThen_ok, List.map_toArray, List.map_cons, List.map_nil, hs, hx, hr]
    exact h v' w' h2 h3 h5

theorem step_append_any {P : Program} (w : World) {ops : Array Oper} {o : Oper} {a : Act} {K : Act → World → Prop} {Q : Exit → Act → World → Prop} {E : Prop} (hgd : o.guard = none) (s x : Operand) (t : TypeId)
    (ho : o.op = .call { callee := .builtin .append, args := #[s, x], argTypes := #[t, t] })
    (base : Nat) (e : TypeId) (i : TypeInfo) (z : Value) (size bytes : Nat) (ht : P.underlying t = some (.slice e)) (hi : P.info? e = some i) (hz : i.zero = some z)
    (hsize : i.size = size) (hby : i.bytes = bytes) (hzs : z.cells.size = size) (hsz : 0 < size)
    (v : Value) (n : Nat) (xs : List Value) (hs : a.eval s = v) (hown : w.ownsRow base e size v n xs)
    (ad : Option Addr) (m c : Nat) (news : List Value) (hx : a.eval x = .slice ad m c) (hnil : ad = none → m = 0 ∧ c = 0) (hl : news.length = m * size) (hnews : ∀ p, ad = some p → ∀ j u, news[j]? = some u → w.cell? (p.add j) = some u) (h1 : ∀ u ∈ news, u.oneCell' = true)
    (h63 : n + m ≤ maxLen) (hbytes : (n + m) * bytes ≤ 140737488355328) (hbase : base ≤ w.heap.size)
    (h : ∀ v' w', w'.ownsRow base e size v' (n + m) (xs ++ news) → w.grownBy w' v.ownBlock → (v'.ownBlock = v.ownBlock ∨ v'.ownBlock = some w.heap.size) → K (a.put o.dst v') w') :
    if Region.wanted o (yielded ops a.tmps) = true then Oper.wp P o a w K Q else E := by
  have hw : Region.wanted o (yielded ops a.tmps) = true := by simp [Region.wanted, hgd]
  rw [if_pos hw]
  exact wp_append_any w s x t ho base e i z size bytes ht hi hz hsize hby hzs hsz v n xs hs hown ad m c news hx hnil hl hnews h1 h63 hbytes hbase h

theorem wpList_append_any {P : Program} (w : World) {ops : Array Oper} {rest : List Oper} {o : Oper} {a : Act} {Q : Exit → Act → World → Prop} (hgd : o.guard = none) (s x : Operand) (t : TypeId)
    (ho : o.op = .call { callee := .builtin .append, args := #[s, x], argTypes := #[t, t] })
    (base : Nat) (e : TypeId) (i : TypeInfo) (z : Value) (size bytes : Nat) (ht : P.underlying t = some (.slice e)) (hi : P.info? e = some i) (hz : i.zero = some z)
    (hsize : i.size = size) (hby : i.bytes = bytes) (hzs : z.cells.size = size) (hsz : 0 < size)
    (v : Value) (n : Nat) (xs : List Value) (hs : a.eval s = v) (hown : w.ownsRow base e size v n xs)
    (ad : Option Addr) (m c : Nat) (news : List Value) (hx : a.eval x = .slice ad m c) (hnil : ad = none → m = 0 ∧ c = 0) (hl : news.length = m * size) (hnews : ∀ p, ad = some p → ∀ j u, news[j]? = some u → w.cell? (p.add j) = some u) (h1 : ∀ u ∈ news, u.oneCell' = true)
    (h63 : n + m ≤ maxLen) (hbytes : (n + m) * bytes ≤ 140737488355328) (hbase : base ≤ w.heap.size)
    (h : ∀ v' w', w'.ownsRow base e size v' (n + m) (xs ++ news) → w.grownBy w' v.ownBlock → (v'.ownBlock = v.ownBlock ∨ v'.ownBlock = some w.heap.size) → wpList P ops Q rest (a.put o.dst v') w') : wpList P ops Q (o :: rest) a w :=
  wpList_plain hgd fun _ hK => wp_append_any w s x t ho base e i z size bytes ht hi hz hsize hby hzs hsz v n xs hs hown ad m c news hx hnil hl hnews h1 h63 hbytes hbase fun v' w' h2 h3 h4 => hK _ _ (h v' w' h2 h3 h4)

/-- Edges do not lie in a graph's own variable. -/
theorem eat_off_box {w : World} {B : Nat} {n : Int} {sa : Option Addr} {sl sc : Nat} {T : TypeId} {fr : Nat × Nat} {a : Option Addr} {ys : List (Int × Int)} (hB : w.heap[B]? = some (.cells #[.int .i64 n, .slice sa sl sc] T fr)) (h : EAt w a ys) : ∀ g off, 0 < ys.length → a = some ⟨g, off, none⟩ → g ≠ B := fun g off h0 ha e => by
  subst e
  obtain ⟨g', off', ha', _, hc⟩ := h h0
  rw [ha] at ha'
  simp only [Option.some.injEq, Addr.mk.injEq, and_true] at ha'
  obtain ⟨rfl, rfl⟩ := ha'
  have h1 := (hc 0 h0).1
  have h2 := (hc 0 h0).2
  rw [cell_of_heap hB] at h1 h2
  match off, h1, h2 with
  | 0, h1, h2 => simp at h2
  | 1, h1, h2 => simp at h1
  | k + 2, h1, h2 => simp at h1
theorem hid2 {p q : Prop} (h : p) (h' : q) : p ∧ q := ⟨h, h'⟩
end Go.Proofs.Ytlebimolgienkaa
namespace Go.Proofs.Ytlebimolgienkaa
open Go.RowKit Go.Lib

/-- All blocks that were there are as they were, but for some. -/
structure KeptBut (S : Nat → Prop) (w w' : World) : Prop where
  os : w'.os = w.os
  tape : w'.tape = w.tape
  output : w'.output = w.output
  size : w.heap.size ≤ w'.heap.size
  block : ∀ k, k < w.heap.size → ¬ S k → w'.heap[k]? = w.heap[k]?
theorem KeptBut.refl (S : Nat → Prop) (w : World) : KeptBut S w w := ⟨rfl, rfl, rfl, Nat.le_refl _, fun _ _ _ => rfl⟩
theorem KeptBut.trans {S : Nat → Prop} {a b c : World} (h : KeptBut S a b) (k : KeptBut S b c) : KeptBut S a c :=
  ⟨k.os.trans h.os, k.tape.trans h.tape, k.output.trans h.output, Nat.le_trans h.size k.size, fun i hi hs => (k.block i (Nat.lt_of_lt_of_le hi h.size) hs).trans (h.block i hi hs)⟩
theorem KeptBut.mono {S S' : Nat → Prop} {a b : World} (h : KeptBut S a b) (hs : ∀ k, k < a.heap.size → S k → S' k) : KeptBut S' a b := ⟨h.os, h.tape, h.output, h.size, fun k hk hn => h.block k hk (fun e => hn (hs k hk e))⟩
theorem KeptBut.of_below {B : Nat} {a b : World} (h : Below B a b) : KeptBut (fun k => B ≤ k) a b := ⟨h.os, h.tape, h.output, h.size, fun k _ hn => h.block k (by omega)⟩
theorem KeptBut.below {S : Nat → Prop} {B : Nat} {a b : World} (h : KeptBut S a b) (hB : B ≤ a.heap.size) (hs : ∀ k, k < a.heap.size → S k → B ≤ k) : Below B a b := ⟨h.os, h.tape, h.output, h.size, fun k hk => h.block k (by omega) (fun e => by have := hs k (by omega) e; omega)⟩
theorem kept_set (w : World) (p : Addr) (v : Value) : KeptBut (fun k => k = p.block) w (w.setCell p v) :=
  ⟨rfl, rfl, rfl, by simp, fun _ _ hn => Below.heap_setCell _ _ _ _ hn⟩
theorem KeptBut.cell {S : Nat → Prop} {w w' : World} (h : KeptBut S w w') {p : Addr} (hp : p.block < w.heap.size) (hs : ¬ S p.block) : w'.cell? p = w.cell? p := World.cell?_of_block (w := w) (h.block p.block hp hs)
theorem KeptBut.frozen {S : Nat → Prop} {w w' : World} (h : KeptBut S w w') {p : Addr} (hp : p.block < w.heap.size) (hs : ¬ S p.block) : w'.frozen? p = w.frozen? p := World.frozen?_of_block (w := w) (h.block p.block hp hs)

/-- The numbers 0 to n-1, as cells. -/
def upto (n : Nat) : List Int := (List.range n).map (fun i : Nat => (i : Int))
theorem upto_len (n : Nat) : (upto n).length = n := by simp [upto]
theorem sl_own {w : World} {base : Nat} {e : TypeId} {size : Nat} {v : Value} {n : Nat} {xs : List Value} (h : w.ownsRow base e size v n xs) : ∃ a cap, v = .slice a n cap ∧ Sl a cap n := by
  rcases h.2 with ⟨hv, h0⟩ | ⟨g, cap, cur, hv, _, _, hc, _⟩
  · exact ⟨none, 0, by rw [hv, h0], by rw [h0]; exact sl_nil⟩
  · exact ⟨_, cap, hv, sl_some hc⟩
/-- A part of the document's: a variable with a row of the least numbers. -/
structure QAt (w : World) (b g : Nat) (a : Option Addr) (n cap : Nat) (f : Nat → Nat) : Prop where
  box : w.cell? ⟨b, 0, none⟩ = some (.slice a n cap)
  row : 0 < n → a = some ⟨g, 0, none⟩ ∧ Row1 w g n (fun i => (f i : Int))
  ne : g ≠ b
theorem QAt.kept {S : Nat → Prop} {w w' : World} {b g : Nat} {a : Option Addr} {n cap : Nat} {f : Nat → Nat} (h : QAt w b g a n cap f) (hk : KeptBut S w w') (hb : ¬ S b) (hg : 0 < n → ¬ S g) : QAt w' b g a n cap f := by
  refine ⟨(hk.cell (p := ⟨b, 0, none⟩) (block_lt_of_cell h.box) hb).trans h.box, fun h0 => ?_, h.ne⟩
  obtain ⟨ha, hr⟩ := h.row h0
  exact ⟨ha, Nat.lt_of_lt_of_le hr.1 hk.size, fun j hj => ⟨(hk.cell (p := ⟨g, j, none⟩) hr.1 (hg h0)).trans (hr.2 j hj).1, (hk.frozen (p := ⟨g, j, none⟩) hr.1 (hg h0)).trans (hr.2 j hj).2⟩⟩
theorem QAt.below {w w' : World} {b g : Nat} {a : Option Addr} {n cap : Nat} {f : Nat → Nat} (h : QAt w b g a n cap f) (hk : Below w.heap.size w w') : QAt w' b g a n cap f := by
  refine ⟨(hk.cell (p := ⟨b, 0, none⟩) (block_lt_of_cell h.box)).trans h.box, fun h0 => ?_, h.ne⟩
  obtain ⟨ha, hr⟩ := h.row h0
  exact ⟨ha, Nat.lt_of_lt_of_le hr.1 hk.size, fun j hj => ⟨(hk.cell (p := ⟨g, j, none⟩) hr.1).trans (hr.2 j hj).1, (hk.frozen (p := ⟨g, j, none⟩) hr.1).trans (hr.2 j hj).2⟩⟩
theorem QAt.iat {w : World} {b g : Nat} {a : Option Addr} {n cap : Nat} {f : Nat → Nat} (h : QAt w b g a n cap f) {i : Nat} (hi : i < n) : a = some ⟨g, 0, none⟩ ∧ w.cell? ⟨g, i, none⟩ = some (.int .i64 (f i)) ∧ w.frozen? ⟨g, i, none⟩ = false :=
  ⟨(h.row (by omega)).1, ((h.row (by omega)).2.2 i hi).1, ((h.row (by omega)).2.2 i hi).2⟩

end Go.Proofs.Ytlebimolgienkaa
namespace Go.Proofs.Ytlebimolgienkaa
open Go.RowKit Go.Lib

theorem KeptBut.of_grown {w w' : World} {row : Option Nat} (hg : w.grownBy w' row) : KeptBut (fun k => some k = row) w w' := ⟨hg.os, hg.tape, hg.output, hg.size, fun k hk hn => hg.block k hk hn⟩
theorem kept_alloc (w : World) (o : Obj) (S : Nat → Prop) : KeptBut S w (w.alloc o) := (KeptBut.of_below ((Below.refl w.heap.size w).alloc (Nat.le_refl _) o)).mono (fun k hk hs => absurd hs (by omega))
theorem KeptBut.of_whole {w w' : World} (S : Nat → Prop) (h : Below w.heap.size w w') : KeptBut S w w' := (KeptBut.of_below h).mono (fun k hk hs => absurd hs (by omega))
theorem IAt.kept {S : Nat → Prop} {w w' : World} {a : Option Addr} {xs : List Int} (h : IAt w a xs) (hk : KeptBut S w w') (hs : ∀ g off, a = some ⟨g, off, none⟩ → 0 < xs.length → ¬ S g) : IAt w' a xs := fun h0 => by
  obtain ⟨g, off, ha, hg, hc⟩ := h h0
  exact ⟨g, off, ha, Nat.lt_of_lt_of_le hg hk.size, fun k hk' => (hk.cell (p := ⟨g, off + k, none⟩) hg (hs g off ha h0)).trans (hc k hk')⟩
theorem own_kept {S : Nat → Prop} {w w' : World} {base : Nat} {e : TypeId} {size : Nat} {v : Value} {n : Nat} {xs : List Value} (h : w.ownsRow base e size v n xs) (hk : KeptBut S w w') (hs : ∀ g, v.ownBlock = some g → ¬ S g) : w'.ownsRow base e size v n xs := by
  refine ⟨h.1, ?_⟩
  rcases h.2 with h2 | ⟨g, cap, cur, hv, hg, hgc, r⟩
  · exact Or.inl h2
  · exact Or.inr ⟨g, cap, cur, hv, hg, (hk.block g (Array.getElem?_eq_some_iff.1 hgc).1 (hs g (by rw [hv]; rfl))).trans hgc, r⟩

/-- A list of rows in memory. -/
def LLAt (w : World) (a : Option Addr) (LL : List (List Int)) : Prop :=
  0 < LL.length → ∃ g off, a = some ⟨g, off, none⟩ ∧ g < w.heap.size ∧ ∀ k (hk : k < LL.length), ∃ ak ck, w.cell? ⟨g, off + k, none⟩ = some (.slice ak LL[k].length ck) ∧ IAt w ak LL[k]
theorem LLAt.below {w w' : World} {a : Option Addr} {LL : List (List Int)} (h : LLAt w a LL) (hb : Below w.heap.size w w') : LLAt w' a LL := fun h0 => by
  obtain ⟨g, off, ha, hg, hc⟩ := h h0
  refine ⟨g, off, ha, Nat.lt_of_lt_of_le hg hb.size, fun k hk => ?_⟩
  obtain ⟨ak, ck, h1, h2⟩ := hc k hk
  exact ⟨ak, ck, (hb.cell (p := ⟨g, off + k, none⟩) hg).trans h1, h2.below hb⟩
theorem LLAt.at {w : World} {a : Option Addr} {LL : List (List Int)} (h : LLAt w a LL) {k : Nat} (hk : k < LL.length) : ∃ g off ak ck, a = some ⟨g, off, none⟩ ∧ w.cell? ⟨g, off + k, none⟩ = some (.slice ak LL[k].length ck) ∧ IAt w ak LL[k] := by
  obtain ⟨g, off, ha, hg, hc⟩ := h (by omega)
  obtain ⟨ak, ck, h1, h2⟩ := hc k hk
  exact ⟨g, off, ak, ck, ha, h1, h2⟩

/-- A list of rows of the call's own: the headers in one block, the rows in others, all of them in blocks of A. -/
def LLOwn (w : World) (base : Nat) (A : Nat → Prop) (v : Value) (us : List Value) (LL : List (List Int)) : Prop :=
  w.ownsRow base 28 1 v LL.length us ∧ us.length = LL.length ∧ (∀ g, v.ownBlock = some g → A g) ∧
    ∀ k (hk : k < LL.length), ∃ ak ck, us[k]? = some (.slice ak LL[k].length ck) ∧ IAt w ak LL[k] ∧ ∀ g off, ak = some ⟨g, off, none⟩ → 0 < LL[k].length → A g ∧ v.ownBlock ≠ some g
theorem LLOwn.kept {S A : Nat → Prop} {w w' : World} {base : Nat} {v : Value} {us : List Value} {LL : List (List Int)} (h : LLOwn w base A v us LL) (hk : KeptBut S w w') (hs : ∀ k, A k → k < w.heap.size → ¬ S k) : LLOwn w' base A v us LL := by
  refine ⟨own_kept h.1 hk (fun g hg => hs g (h.2.2.1 g hg) (h.1.lt g hg).2), h.2.1, h.2.2.1, fun k hk' => ?_⟩
  obtain ⟨ak, ck, h1, h2, h3⟩ := h.2.2.2 k hk'
  exact ⟨ak, ck, h1, h2.kept hk (fun g off ha h0 => hs g (h3 g off ha h0).1 (by
    obtain ⟨g', off', ha', hg', _⟩ := h2 h0
    rw [ha] at ha'
    cases ha'
    exact hg')), h3⟩
theorem LLOwn.below {A : Nat → Prop} {w w' : World} {base : Nat} {v : Value} {us : List Value} {LL : List (List Int)} (h : LLOwn w base A v us LL) (hb : Below w.heap.size w w') : LLOwn w' base A v us LL :=
  h.kept (KeptBut.of_whole (fun _ => False) hb) (fun _ _ _ e => e)
theorem LLOwn.put {A : Nat → Prop} {w w4 : World} {base : Nat} {v v4 : Value} {us : List Value} {LL : List (List Int)} {L : List Int} {ar : Option Addr} {cr : Nat} {X : Obj} (h : LLOwn w base A v us LL) (hI : IAt w ar L)
    (hA : ∀ g off, ar = some ⟨g, off, none⟩ → 0 < L.length → A g ∧ v.ownBlock ≠ some g) (hnew : A (w.alloc X).heap.size)
    (ho : w4.ownsRow base 28 1 v4 (LL.length + 1) (us ++ [.slice ar L.length cr])) (hg : (w.alloc X).grownBy w4 v.ownBlock) (hat : v4.ownBlock = v.ownBlock ∨ v4.ownBlock = some (w.alloc X).heap.size) :
    LLOwn w4 base A v4 (us ++ [.slice ar L.length cr]) (LL ++ [L]) := by
  have hk : KeptBut (fun k => some k = v.ownBlock) w w4 := (kept_alloc w X _).trans (KeptBut.of_grown hg)
  have hs : (w.alloc X).heap.size = w.heap.size + 1 := by simp
  have hne : ∀ g, g < w.heap.size → v.ownBlock ≠ some g → v4.ownBlock ≠ some g := fun g h1 h2 e => by
    rcases hat with h3 | h3
    · exact h2 (h3.symm.trans e)
    · rw [h3, hs] at e; simp only [Option.some.injEq] at e; omega
  refine ⟨by rw [List.length_append]; exact ho, by simp [h.2.1], fun g e => ?_, fun k hk' => ?_⟩
  · rcases hat with h3 | h3
    · exact h.2.2.1 g (h3.symm.trans e)
    · rw [h3] at e; simp only [Option.some.injEq] at e; rw [← e]; exact hnew
  · by_cases hlt : k < LL.length
    · obtain ⟨ak, ck, h1, h2, h3⟩ := h.2.2.2 k hlt
      have e1 : (LL ++ [L])[k] = LL[k] := List.getElem_append_left hlt
      rw [e1]
      refine ⟨ak, ck, by rw [List.getElem?_append_left (by rw [h.2.1]; exact hlt)]; exact h1, h2.kept hk (fun g off ha h0 e => (h3 g off ha h0).2 e.symm), fun g off ha h0 => ⟨(h3 g off ha h0).1, hne g ?_ (h3 g off ha h0).2⟩⟩
      obtain ⟨g', off', ha', hg', _⟩ := h2 h0
      rw [ha] at ha'
      cases ha'
      exact hg'
    · obtain rfl : k = LL.length := by simp at hk'; omega
      have e1 : (LL ++ [L])[LL.length] = L := by simp
      rw [e1]
      refine ⟨ar, cr, by rw [← h.2.1]; simp, hI.kept hk (fun g off ha h0 e => (hA g off ha h0).2 e.symm), fun g off ha h0 => ⟨(hA g off ha h0).1, hne g ?_ (hA g off ha h0).2⟩⟩
      obtain ⟨g', off', ha', hg', _⟩ := hI h0
      rw [ha] at ha'
      cases ha'
      exact hg'
theorem LLOwn.at {A : Nat → Prop} {w : World} {base : Nat} {v : Value} {us : List Value} {LL : List (List Int)} (h : LLOwn w base A v us LL) : ∃ a cap, v = .slice a LL.length cap ∧ Sl a cap LL.length ∧ LLAt w a LL := by
  obtain ⟨a, cap, hv, hsl⟩ := sl_own h.1
  refine ⟨a, cap, hv, hsl, fun h0 => ?_⟩
  obtain ⟨g, cap', hv', hb, hg, hc, hcs⟩ := own_row h.1 h0
  rw [hv] at hv'
  simp only [Value.slice.injEq, true_and] at hv'
  refine ⟨g, 0, hv'.1, hg, fun k hk => ?_⟩
  obtain ⟨ak, ck, h1, h2, _⟩ := h.2.2.2 k hk
  exact ⟨ak, ck, by rw [Nat.zero_add]; exact hcs k _ h1, h2⟩

theorem boolR_of (p : Prop) : ∃ r : Bool, r = true ↔ p := by
  by_cases h : p
  · exact ⟨true, ⟨fun _ => h, fun _ => rfl⟩⟩
  · exact ⟨false, ⟨fun h' => (by cases h'), fun h' => absurd h' h⟩⟩
end Go.Proofs.Ytlebimolgienkaa
namespace Go.Proofs.Ytlebimolgienkaa
open Go.RowKit Go.Lib

/-- What is known of a slice that came in, beside its cells. -/
def Slw (a : Option Addr) (cap n : Nat) : Prop := n ≤ cap ∧ (a = none → cap = 0)
theorem Sl.w {a : Option Addr} {cap n : Nat} (h : Sl a cap n) : Slw a cap n := ⟨h.1, h.2.1⟩
/-- Numbers as a machine has them. -/
def WfR (LL : List (List Int)) : Prop := ∀ L ∈ LL, ∀ x ∈ L, (Lit.int .i64 x).wf = true
/-- Rows in memory, with what is known of their slices. -/
def LLS (w : World) (a : Option Addr) (LL : List (List Int)) : Prop :=
  0 < LL.length → ∃ g off, a = some ⟨g, off, none⟩ ∧ g < w.heap.size ∧ ∀ k (hk : k < LL.length), ∃ ak ck, w.cell? ⟨g, off + k, none⟩ = some (.slice ak LL[k].length ck) ∧ IAt w ak LL[k] ∧ Slw ak ck LL[k].length
theorem LLS.below {w w' : World} {a : Option Addr} {LL : List (List Int)} (h : LLS w a LL) (hb : Below w.heap.size w w') : LLS w' a LL := fun h0 => by
  obtain ⟨g, off, ha, hg, hc⟩ := h h0
  refine ⟨g, off, ha, Nat.lt_of_lt_of_le hg hb.size, fun k hk => ?_⟩
  obtain ⟨ak, ck, h1, h2, h3⟩ := hc k hk
  exact ⟨ak, ck, (hb.cell (p := ⟨g, off + k, none⟩) hg).trans h1, h2.below hb, h3⟩
theorem LLS.at {w : World} {a : Option Addr} {LL : List (List Int)} (h : LLS w a LL) {k : Nat} (hk : k < LL.length) : ∃ g off ak ck, a = some ⟨g, off, none⟩ ∧ w.cell? ⟨g, off + k, none⟩ = some (.slice ak LL[k].length ck) ∧ IAt w ak LL[k] ∧ Slw ak ck LL[k].length := by
  obtain ⟨g, off, ha, hg, hc⟩ := h (by omega)
  obtain ⟨ak, ck, h1, h2, h3⟩ := hc k hk
  exact ⟨g, off, ak, ck, ha, h1, h2, h3⟩
end Go.Proofs.Ytlebimolgienkaa
