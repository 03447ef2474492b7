/-
  The document's Normal, by rows: what stands above each vertex.
-/
import Derived.Test.YtalhjankofdhgaaRNear
import Derived.Test.YtalhjankofdhgaaGNormal
import Derived.Test.YtalhjankofdhgaaRHas
import Derived.Test.YtalhjankofdhgaaGConc
import Derived.Deep.OwnRows
import Derived.Deep.AppendLies
import Derived.Deep.RegionLaw
namespace Go.Proofs.Ytalhjankofdhgaa
open Go.RowKit Go.Lib

theorem Try.info34 : (Try.prog.info? 34).map (fun i => (i.zero, i.size, i.bytes)) = some (some (.slice none 0 0), 1, 24) := by kernel_rfl

/-- The rows tell the pairs of the edges so far. -/
def RInv (n : Nat) (l : List (Int × Int)) (R : Nat → List Int) : Prop := ∀ v, v < n → (R v).Nodup ∧ (R v).length ≤ l.length ∧ ∀ x, x ∈ R v ↔ ((v : Int), x) ∈ prs l
theorem rinv_nil (n : Nat) : RInv n [] (fun _ => []) := fun v _ => ⟨List.nodup_nil, Nat.le_refl _, fun x => by simp [prs_nil]⟩
theorem rinv_skip {n : Nat} {l : List (Int × Int)} {R : Nat → List Int} {e : Int × Int} (h : RInv n l R) (he : e.1 = e.2) : RInv n (l ++ [e]) R := fun v hv => by
  obtain ⟨h1, h2, h3⟩ := h v hv
  exact ⟨h1, by simp; omega, fun x => by rw [prs_snoc, prs_same he, List.append_nil]; exact h3 x⟩
theorem rinv_has {n lo : Nat} {l : List (Int × Int)} {R : Nat → List Int} {e : Int × Int} (h : RInv n l R) (he : e.1 ≠ e.2) (hlo : (lo : Int) = min e.1 e.2) (hn : lo < n) (hm : max e.1 e.2 ∈ R lo) : RInv n (l ++ [e]) R := fun v hv => by
  obtain ⟨h1, h2, h3⟩ := h v hv
  refine ⟨h1, by simp; omega, fun x => ?_⟩
  rw [prs_snoc, prs_one he, List.mem_append, h3 x, List.mem_singleton]
  refine ⟨Or.inl, fun hx => hx.elim id fun hx => ?_⟩
  rw [hx, ← hlo]
  exact ((h lo hn).2.2 _).1 hm
theorem rinv_put {n lo : Nat} {l : List (Int × Int)} {R : Nat → List Int} {e : Int × Int} (h : RInv n l R) (he : e.1 ≠ e.2) (hlo : (lo : Int) = min e.1 e.2) (hn : lo < n) (hm : max e.1 e.2 ∉ R lo) : RInv n (l ++ [e]) (fun j => if j = lo then R lo ++ [max e.1 e.2] else R j) := fun v hv => by
  show (if v = lo then _ else _ : List Int).Nodup ∧ (if v = lo then _ else _ : List Int).length ≤ _ ∧ ∀ x, x ∈ (if v = lo then _ else _ : List Int) ↔ _
  by_cases e1 : v = lo
  · subst e1
    obtain ⟨h1, h2, h3⟩ := h v hv
    rw [if_pos rfl]
    refine ⟨?_, by simp; omega, fun x => ?_⟩
    · rw [List.nodup_append]
      refine ⟨h1, by simp, fun a ha b hb => ?_⟩
      simp at hb
      subst hb
      intro hab
      subst hab
      exact hm ha
    · rw [prs_snoc, prs_one he, List.mem_append, List.mem_append, h3 x, List.mem_singleton, List.mem_singleton, ← hlo]
      simp
  · obtain ⟨h1, h2, h3⟩ := h v hv
    rw [if_neg e1]
    refine ⟨h1, by simp; omega, fun x => ?_⟩
    rw [prs_snoc, prs_one he, List.mem_append, h3 x, List.mem_singleton, ← hlo]
    refine ⟨Or.inl, fun hx => hx.elim id fun hx => ?_⟩
    simp only [Prod.mk.injEq] at hx
    exact absurd (by omega) e1

/-- The edges out of the rows. -/
def ER (v : Nat) (R : Nat → List Int) : List (Int × Int) := (srt [] (R v)).map (fun x => ((v : Int), x))
def ES (n : Nat) (R : Nat → List Int) : List (Int × Int) := (List.range n).flatMap (fun v => ER v R)
theorem es_zero (R : Nat → List Int) : ES 0 R = [] := rfl
theorem es_succ (n : Nat) (R : Nat → List Int) : ES (n + 1) R = ES n R ++ ER n R := by simp [ES, List.range_succ]
theorem er_len (v : Nat) (R : Nat → List Int) : (ER v R).length = (srt [] (R v)).length := by simp [ER]
theorem es_mem {n : Nat} {R : Nat → List Int} {e : Int × Int} : e ∈ ES n R ↔ ∃ v, v < n ∧ e.1 = (v : Int) ∧ e.2 ∈ R v := by
  unfold ES ER
  simp only [List.mem_flatMap, List.mem_range, List.mem_map]
  constructor
  · rintro ⟨v, hv, x, hx, rfl⟩
    exact ⟨v, hv, rfl, by simpa [srt_mem] using hx⟩
  · rintro ⟨v, hv, h1, h2⟩
    exact ⟨v, hv, e.2, by simpa [srt_mem] using h2, by rw [← h1]⟩
theorem up_strict {xs : List Int} (h : Up xs) (hn : xs.Nodup) : xs.Pairwise (· < ·) := by
  unfold Up at h
  have := h.and hn
  exact this.imp (fun ⟨h1, h2⟩ => by omega)
theorem ins_nodup {x : Int} {ys : List Int} (h : ys.Nodup) (hx : x ∉ ys) : (ins x ys).Nodup := by
  induction ys with
  | nil => simp [ins]
  | cons y ys ih =>
    rw [List.nodup_cons] at h
    simp only [List.mem_cons, not_or] at hx
    unfold ins
    split
    · rw [List.nodup_cons]
      refine ⟨fun hm => ?_, ih h.2 hx.2⟩
      rcases ins_mem.1 hm with hm | hm
      · exact hx.1 hm.symm
      · exact h.1 hm
    · rw [List.nodup_cons, List.nodup_cons]
      exact ⟨by simp [hx.1, hx.2], h⟩
theorem srt_nodup {acc xs : List Int} (h : (acc ++ xs).Nodup) : (srt acc xs).Nodup := by
  induction xs generalizing acc with
  | nil => simpa [srt] using h
  | cons y xs ih =>
    rw [List.nodup_append] at h
    obtain ⟨h1, h2, h3⟩ := h
    rw [List.nodup_cons] at h2
    refine ih ?_
    rw [List.nodup_append]
    refine ⟨ins_nodup h1 (fun hy => h3 y hy y (by simp) rfl), h2.2, fun a ha b hb => ?_⟩
    rcases ins_mem.1 ha with rfl | ha
    · intro e; subst e; exact h2.1 hb
    · exact h3 a ha b (by simp [hb])
theorem es_rises {n : Nat} {R : Nat → List Int} (h : ∀ v, v < n → (R v).Nodup) : Rises (ES n R) := by
  induction n with
  | zero => exact rises_nil
  | succ n ih =>
    rw [es_succ]
    unfold Rises
    rw [List.pairwise_append]
    refine ⟨ih (fun v hv => h v (by omega)), ?_, fun a ha b hb => ?_⟩
    · unfold ER
      rw [List.pairwise_map]
      refine (up_strict (srt_up (by unfold Up; simp)) (srt_nodup (by simpa using h n (by omega)))).imp (fun {a b} hab => ?_)
      rw [ltE_iff]; exact Or.inr ⟨rfl, hab⟩
    · obtain ⟨v, hv, h1, _⟩ := es_mem.1 ha
      unfold ER at hb
      obtain ⟨x, _, rfl⟩ := List.mem_map.1 hb
      rw [ltE_iff, h1]; exact Or.inl (by simpa using hv)
theorem es_norm {n : Nat} {l : List (Int × Int)} {R : Nat → List Int} (h : RInv n l R) (hl : AllIn n l) : IsNorm l (ES n R) := by
  refine ⟨es_rises (fun v hv => (h v hv).1), fun e => ?_⟩
  rw [es_mem]
  constructor
  · rintro ⟨v, hv, h1, h2⟩
    have := ((h v hv).2.2 e.2).1 h2
    rwa [← h1] at this
  · intro he
    obtain ⟨d, hd, hne, rfl⟩ := mem_prs.1 he
    have hd' := hl d hd
    refine ⟨(min d.1 d.2).toNat, by omega, by simp; omega, ?_⟩
    refine ((h _ (by omega)).2.2 _).2 ?_
    rwa [show ((min d.1 d.2).toNat : Int) = min d.1 d.2 by omega]
theorem es_le {n a : Nat} (R : Nat → List Int) (h : a ≤ n) : (ES a R).length ≤ (ES n R).length := by
  induction n with
  | zero => obtain rfl : a = 0 := by omega
            exact Nat.le_refl _
  | succ n ih =>
    by_cases e : a = n + 1
    · subst e; exact Nat.le_refl _
    · rw [es_succ, List.length_append]
      have := ih (by omega); omega
/-- Part of a row's edges. -/
theorem er_take {v : Nat} {R : Nat → List Int} {i : Nat} (h : i < (srt [] (R v)).length) : (ER v R).take (i + 1) = (ER v R).take i ++ [((v : Int), (srt [] (R v))[i])] := by
  rw [List.take_succ_eq_append_getElem (by rw [er_len]; exact h)]
  simp [ER]

/-- The rows in memory, each in a block of its own. -/
structure UpAt (w : World) (g base n : Nat) (u : Nat → Value) (R : Nat → List Int) : Prop where
  lt : g < base
  bs : base ≤ w.heap.size
  row : w.rowIs g 34 n u
  own : ∀ v, v < n → w.ownsRow base 3 1 (u v) (R v).length ((R v).map (Value.int .i64))
  apart : ∀ v v', v < n → v' < n → v ≠ v' → (u v).ownBlock = none ∨ (u v).ownBlock ≠ (u v').ownBlock
theorem own_set {w : World} {base e size n : Nat} {v : Value} {xs : List Value} {p : Addr} (h : w.ownsRow base e size v n xs) (hp : p.block < base) (x : Value) : (w.setCell p x).ownsRow base e size v n xs := by
  refine ⟨h.1, ?_⟩
  rcases h.2 with hn | ⟨g, cap, cur, rfl, hb, hgg, rest⟩
  · exact .inl hn
  · exact .inr ⟨g, cap, cur, rfl, hb, by rw [Deep.blk_setCell_other _ _ _ _ (by omega)]; exact hgg, rest⟩
theorem UpAt.below {w w' : World} {g base n : Nat} {u : Nat → Value} {R : Nat → List Int} (h : UpAt w g base n u R) (hb : Below w.heap.size w w') : UpAt w' g base n u R :=
  ⟨h.lt, Nat.le_trans h.bs hb.size, h.row.of_block (hb.block _ h.row.lt), fun v hv => own_below (h.own v hv) hb, h.apart⟩
theorem UpAt.put {w w4 : World} {g base n lo : Nat} {u : Nat → Value} {R : Nat → List Int} {x : Int} {o : Obj} {g' cap' : Nat} {v' : Value} (h : UpAt w g base n u R) (hlo : lo < n) (hv' : v' = .slice (some ⟨g', 0, none⟩) ((R lo).length + 1) cap')
    (hown : w4.ownsRow base 3 1 v' ((R lo).length + 1) ((R lo).map (Value.int .i64) ++ [.int .i64 x])) (hg : (w.alloc o).grownBy w4 (u lo).ownBlock) (hat : (u lo).ownBlock = some g' ∨ g' = w.heap.size + 1) :
    UpAt (w4.setCell ⟨g, lo, none⟩ v') g base n (fun j => if j = lo then v' else u j) (fun j => if j = lo then R lo ++ [x] else R j) := by
  have hs : (w.alloc o).heap.size = w.heap.size + 1 := by simp
  have hlt := h.lt
  have hbs := h.bs
  have hgl := h.row.lt
  have hob : v'.ownBlock = some g' := by rw [hv']; rfl
  have hub : ∀ j, j < n → ∀ b, (u j).ownBlock = some b → base ≤ b ∧ b < w.heap.size := fun j hj b hb => (h.own j hj).lt b hb
  have hne : some g ≠ (u lo).ownBlock := fun e => by
    have := (hub lo hlo g e.symm).1
    omega
  refine ⟨h.lt, ?_, ?_, fun v hv => ?_, fun v v2 hv hv2 hvv => ?_⟩
  · have h1 := hg.size
    have h2 : (w4.setCell ⟨g, lo, none⟩ v').heap.size = w4.heap.size := by simp
    omega
  · refine (((h.row.alloc o).of_block (hg.block g (by omega) hne)).set lo v').congr (fun i _ => rfl)
  · refine own_set ?_ (by simpa using hlt) _
    show w4.ownsRow base 3 1 (if v = lo then v' else u v) (if v = lo then R lo ++ [x] else R v).length ((if v = lo then R lo ++ [x] else R v).map (Value.int .i64))
    by_cases e : v = lo
    · subst e
      rw [if_pos rfl, if_pos rfl]
      simpa using hown
    · rw [if_neg e, if_neg e]
      exact ((h.own v hv).alloc o).kept hg (h.apart v lo hv hlo e)
  · show (if v = lo then v' else u v : Value).ownBlock = none ∨ (if v = lo then v' else u v : Value).ownBlock ≠ (if v2 = lo then v' else u v2 : Value).ownBlock
    by_cases e : v = lo
    · subst e
      rw [if_pos rfl, if_neg (fun e => hvv e.symm), hob]
      right
      rcases hat with hat | hat
      · rcases h.apart v v2 hv hv2 hvv with h1 | h1
        · rw [hat] at h1; cases h1
        · rw [← hat]; exact h1
      · intro e
        have := (hub v2 hv2 g' e.symm).2
        omega
    · rw [if_neg e]
      by_cases e2 : v2 = lo
      · subst e2
        rw [if_pos rfl, hob]
        rcases hat with hat | hat
        · rw [← hat]; exact h.apart v v2 hv hv2 hvv
        · right
          intro e3
          have := (hub v hv g' e3).2
          omega
      · rw [if_neg e2]; exact h.apart v v2 hv hv2 hvv
theorem up_made (w : World) (n : Nat) : UpAt (w.alloc (.cells (madeCells #[.slice none 0 0] n) 34)) w.heap.size (w.heap.size + 1) n (fun _ => .slice none 0 0) (fun _ => []) :=
  ⟨by omega, by simp, World.rowIs_made _ _ _ _, fun v _ => World.ownsRow_nil _ _ _ _, fun _ _ _ _ _ => Or.inl rfl⟩
theorem UpAt.iat {w : World} {g base n : Nat} {u : Nat → Value} {R : Nat → List Int} (h : UpAt w g base n u R) {v : Nat} (hv : v < n) : ∃ a cap, u v = .slice a (R v).length cap ∧ IAt w a (R v) := iat_own (h.own v hv)

/-- A graph's edges are put behind each other in its variable; a row of numbers lies elsewhere. -/
structure GAcc (w : World) (B : Nat) (m : Int) (sv : Value) (es : List (Int × Int)) (a5 : Option Addr) (S : List Int) : Prop where
  box : w.heap[B]? = some (.cells #[.int .i64 m, sv] 25 (0, 0))
  own : w.ownsRow (B + 1) 39 2 sv es.length (cellsE es)
  row : IAt w a5 S
  far : ∀ g off, 0 < S.length → a5 = some ⟨g, off, none⟩ → B < g ∧ ∀ b, sv.ownBlock = some b → b ≠ g
theorem box_put {w : World} {b : Nat} {x y v : Value} {T : TypeId} (h : w.heap[b]? = some (.cells #[x, y] T (0, 0))) : (w.setCell ⟨b, 1, none⟩ v).heap[b]? = some (.cells #[x, v] T (0, 0)) := by
  rw [heap_setCell_same w b 1 _ _ v h]; rfl
theorem GAcc.keep {w w4 : World} {B : Nat} {m : Int} {sv : Value} {es : List (Int × Int)} {a5 : Option Addr} {S : List Int} {o : Obj} (h : GAcc w B m sv es a5 S) (hg : (w.drew.alloc o).grownBy w4 sv.ownBlock) :
    w4.heap[B]? = some (.cells #[.int .i64 m, sv] 25 (0, 0)) := by
  have hB : B < w.heap.size := (Array.getElem?_eq_some_iff.1 h.box).1
  rw [hg.block B (by simp; omega) (fun e => by have := (h.own.lt B e.symm).1; omega), Below.heap_alloc w.drew _ _ hB]
  exact h.box
theorem GAcc.put {w w4 : World} {B g' cap' : Nat} {m p q : Int} {sv sv' : Value} {es : List (Int × Int)} {a5 : Option Addr} {S : List Int} {o : Obj} (h : GAcc w B m sv es a5 S) (hg : (w.drew.alloc o).grownBy w4 sv.ownBlock) (hsv : sv' = .slice (some ⟨g', 0, none⟩) (es.length + 1) cap')
    (hown : w4.ownsRow (B + 1) 39 2 sv' (es.length + 1) (cellsE es ++ [.int .i64 p, .int .i64 q])) (hat : sv.ownBlock = some g' ∨ g' = w.heap.size + 1) : GAcc (w4.setCell ⟨B, 1, none⟩ sv') B m sv' (es ++ [(p, q)]) a5 S := by
  have hs : (w.drew.alloc o).heap.size = w.heap.size + 1 := by simp
  refine ⟨box_put (h.keep hg), ?_, fun h0 => ?_, fun g off h0 ha => ⟨(h.far g off h0 ha).1, fun b hb => ?_⟩⟩
  · refine own_set ?_ (by simp) _
    rw [cellsE_append, List.length_append]
    exact hown
  · obtain ⟨g, off, ha, hlt, hc⟩ := h.row h0
    obtain ⟨h1, h2⟩ := h.far g off h0 ha
    refine ⟨g, off, ha, ?_, fun j hj => ?_⟩
    · have := hg.size
      have h3 : (w4.setCell ⟨B, 1, none⟩ sv').heap.size = w4.heap.size := by simp
      omega
    · rw [World.cell?_setCell_other _ _ _ _ (by first | (simp; done) | (simp; omega)), hg.cell_far _ (by first | (simp; done) | (simp; omega)) (fun e => h2 g e.symm rfl)]
      exact cell_alloc_old (w := w.drew) (hc j hj) _
  · obtain ⟨g1, off1, ha1, hlt, _⟩ := h.row h0
    rw [ha] at ha1
    simp only [Option.some.injEq, Addr.mk.injEq, and_true] at ha1
    rw [hsv] at hb
    simp only [Value.ownBlock, Option.some.injEq] at hb
    rcases hat with hat | hat
    · rw [← hb]; exact (h.far g off h0 ha).2 g' hat
    · omega
theorem GAcc.below {w w' : World} {B : Nat} {m : Int} {sv : Value} {es : List (Int × Int)} {a5 : Option Addr} {S : List Int} (h : GAcc w B m sv es a5 S) (hb : Below w.heap.size w w') {a6 : Option Addr} {S' : List Int} (h6 : IAt w' a6 S') (hn : ∀ g off, a6 = some ⟨g, off, none⟩ → w.heap.size ≤ g) : GAcc w' B m sv es a6 S' := by
  have hB : B < w.heap.size := (Array.getElem?_eq_some_iff.1 h.box).1
  exact ⟨(hb.block B hB).trans h.box, own_below h.own hb, h6, fun g off _ ha => ⟨by have := hn g off ha; omega, fun b hb' => by have := hn g off ha; have := (h.own.lt b hb').2; omega⟩⟩
end Go.Proofs.Ytalhjankofdhgaa
