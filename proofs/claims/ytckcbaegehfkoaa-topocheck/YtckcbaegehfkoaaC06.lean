/-
  The document's Normal, by rows: what stands above each vertex.
  append onto a row of the call's own, of a slice that may be nil: as a step of a region that draws its order, and in a plain one.
  Rings: the ways round, and the least of them. No program is named here.
-/
import Derived.Test.YtckcbaegehfkoaaC04
import Derived.Test.YtckcbaegehfkoaaC05
import Derived.Test.YtckcbaegehfkoaaC02
import Derived.Test.YtckcbaegehfkoaaC01
import Derived.Deep.OwnRows
import Derived.Deep.AppendLies
import Derived.Deep.RegionLaw
import Derived.Test.YtckcbaegehfkoaaC03
import Derived.Laws.AppendOwnNone
namespace Go.Proofs.Ytckcbaegehfkoaa
open Go.RowKit Go.Lib

theorem Try.info25 : (Try.prog.info? 25).map (fun i => (i.zero, i.size, i.bytes)) = some (some (.slice none 0 0), 1, 24) := by kernel_rfl

/-- The rows tell the pairs of the edges so far. -/
def RInv (n : Nat) (l : List (Int × Int)) (R : Nat → List Int) : Prop := ∀ v, v < n → (R v).Nodup ∧ (R v).length ≤ l.length ∧ ∀ x, x ∈ R v ↔ ((v : Int), x) ∈ prs l
theorem rinv_nil (n : Nat) : RInv n [] (fun _ => []) := fun v _ => ⟨List.nodup_nil, Nat.le_refl _, fun x => by simp [prs_nil]⟩
theorem rinv_skip {n : Nat} {l : List (Int × Int)} {R : Nat → List Int} {e : Int × Int} (h : RInv n l R) (he : e.1 = e.2) : RInv n (l ++ [e]) R := fun v hv => by
  obtain ⟨h1, h2, h3⟩ := h v hv
  exact ⟨h1, by simp; omega, fun x => by rw [prs_snoc, prs_same he, List.append_nil]; exact h3 x⟩
theorem rinv_has {n lo : Nat} {l : List (Int × Int)} {R : Nat → List Int} {e : Int × Int} (h : RInv n l R) (he : e.1 ≠ e.2) (hlo : (lo : Int) = min e.1 e.2) (hn : lo < n) (hm : max e.1 e.2 ∈ R lo) : RInv n (l ++ [e]) R := fun v hv => by
  obtain ⟨h1, h2, h3⟩ := h v hv
  refine ⟨h1, by simp; omega, fun x => ?_⟩
  rw [prs_snoc, prs_one he, List.mem_append, h3 x, List.mem_singleton]
  refine ⟨Or.inl, fun hx => hx.elim id fun hx => ?_⟩
  rw [hx, ← hlo]
  exact ((h lo hn).2.2 _).1 hm
theorem rinv_put {n lo : Nat} {l : List (Int × Int)} {R : Nat → List Int} {e : Int × Int} (h : RInv n l R) (he : e.1 ≠ e.2) (hlo : (lo : Int) = min e.1 e.2) (hn : lo < n) (hm : max e.1 e.2 ∉ R lo) : RInv n (l ++ [e]) (fun j => if j = lo then R lo ++ [max e.1 e.2] else R j) := fun v hv => by
  show (if v = lo then _ else _ : List Int).Nodup ∧ (if v = lo then _ else _ : List Int).length ≤ _ ∧ ∀ x, x ∈ (if v = lo then _ else _ : List Int) ↔ _
  by_cases e1 : v = lo
  · subst e1
    obtain ⟨h1, h2, h3⟩ := h v hv
    rw [if_pos rfl]
    refine ⟨?_, by simp; omega, fun x => ?_⟩
    · rw [List.nodup_append]
      refine ⟨h1, by simp, fun a ha b hb => ?_⟩
      simp at hb
      subst hb
      intro hab
      subst hab
      exact hm ha
    · rw [prs_snoc, prs_one he, List.mem_append, List.mem_append, h3 x, List.mem_singleton, List.mem_singleton, ← hlo]
      simp
  · obtain ⟨h1, h2, h3⟩ := h v hv
    rw [if_neg e1]
    refine ⟨h1, by simp; omega, fun x => ?_⟩
    rw [prs_snoc, prs_one he, List.mem_append, h3 x, List.mem_singleton, ← hlo]
    refine ⟨Or.inl, fun hx => hx.elim id fun hx => ?_⟩
    simp only [Prod.mk.injEq] at hx
    exact absurd (by omega) e1

/-- The edges out of the rows. -/
def ER (v : Nat) (R : Nat → List Int) : List (Int × Int) := (srt [] (R v)).map (fun x => ((v : Int), x))
def ES (n : Nat) (R : Nat → List Int) : List (Int × Int) := (List.range n).flatMap (fun v => ER v R)
theorem es_succ (n : Nat) (R : Nat → List Int) : ES (n + 1) R = ES n R ++ ER n R := by simp [ES, List.range_succ]
theorem er_len (v : Nat) (R : Nat → List Int) : (ER v R).length = (srt [] (R v)).length := by simp [ER]
theorem es_mem {n : Nat} {R : Nat → List Int} {e : Int × Int} : e ∈ ES n R ↔ ∃ v, v < n ∧ e.1 = (v : Int) ∧ e.2 ∈ R v := by
  unfold ES ER
  simp only [List.mem_flatMap, List.mem_range, List.mem_map]
  constructor
  · rintro ⟨v, hv, x, hx, rfl⟩
    exact ⟨v, hv, rfl, by simpa [srt_mem] using hx⟩
  · rintro ⟨v, hv, h1, h2⟩
    exact ⟨v, hv, e.2, by simpa [srt_mem] using h2, by rw [← h1]⟩
theorem up_strict {xs : List Int} (h : Up xs) (hn : xs.Nodup) : xs.Pairwise (· < ·) := by
  unfold Up at h
  have := h.and hn
  exact this.imp (fun ⟨h1, h2⟩ => by omega)
theorem ins_nodup {x : Int} {ys : List Int} (h : ys.Nodup) (hx : x ∉ ys) : (ins x ys).Nodup := by
  induction ys with
  | nil => simp [ins]
  | cons y ys ih =>
    rw [List.nodup_cons] at h
    simp only [List.mem_cons, not_or] at hx
    unfold ins
    split
    · rw [List.nodup_cons]
      refine ⟨fun hm => ?_, ih h.2 hx.2⟩
      rcases ins_mem.1 hm with hm | hm
      · exact hx.1 hm.symm
      · exact h.1 hm
    · rw [List.nodup_cons, List.nodup_cons]
      exact ⟨by simp [hx.1, hx.2], h⟩
theorem srt_nodup {acc xs : List Int} (h : (acc ++ xs).Nodup) : (srt acc xs).Nodup := by
  induction xs generalizing acc with
  | nil => simpa [srt] using h
  | cons y xs ih =>
    rw [List.nodup_append] at h
    obtain ⟨h1, h2, h3⟩ := h
    rw [List.nodup_cons] at h2
    refine ih ?_
    rw [List.nodup_append]
    refine ⟨ins_nodup h1 (fun hy => h3 y hy y (by simp) rfl), h2.2, fun a ha b hb => ?_⟩
    rcases ins_mem.1 ha with rfl | ha
    · intro e; subst e; exact h2.1 hb
    · exact h3 a ha b (by simp [hb])
theorem es_rises {n : Nat} {R : Nat → List Int} (h : ∀ v, v < n → (R v).Nodup) : Rises (ES n R) := by
  induction n with
  | zero => exact rises_nil
  | succ n ih =>
    rw [es_succ]
    unfold Rises
    rw [List.pairwise_append]
    refine ⟨ih (fun v hv => h v (by omega)), ?_, fun a ha b hb => ?_⟩
    · unfold ER
      rw [List.pairwise_map]
      refine (up_strict (srt_up (by unfold Up; simp)) (srt_nodup (by simpa using h n (by omega)))).imp (fun {a b} hab => ?_)
      rw [ltE_iff]; exact Or.inr ⟨rfl, hab⟩
    · obtain ⟨v, hv, h1, _⟩ := es_mem.1 ha
      unfold ER at hb
      obtain ⟨x, _, rfl⟩ := List.mem_map.1 hb
      rw [ltE_iff, h1]; exact Or.inl (by simpa using hv)
theorem es_norm {n : Nat} {l : List (Int × Int)} {R : Nat → List Int} (h : RInv n l R) (hl : AllIn n l) : IsNorm l (ES n R) := by
  refine ⟨es_rises (fun v hv => (h v hv).1), fun e => ?_⟩
  rw [es_mem]
  constructor
  · rintro ⟨v, hv, h1, h2⟩
    have := ((h v hv).2.2 e.2).1 h2
    rwa [← h1] at this
  · intro he
    obtain ⟨d, hd, hne, rfl⟩ := mem_prs.1 he
    have hd' := hl d hd
    refine ⟨(min d.1 d.2).toNat, by omega, by simp; omega, ?_⟩
    refine ((h _ (by omega)).2.2 _).2 ?_
    rwa [show ((min d.1 d.2).toNat : Int) = min d.1 d.2 by omega]
theorem es_le {n a : Nat} (R : Nat → List Int) (h : a ≤ n) : (ES a R).length ≤ (ES n R).length := by
  induction n with
  | zero => obtain rfl : a = 0 := by omega
            exact Nat.le_refl _
  | succ n ih =>
    by_cases e : a = n + 1
    · subst e; exact Nat.le_refl _
    · rw [es_succ, List.length_append]
      have := ih (by omega); omega
/-- Part of a row's edges. -/
theorem er_take {v : Nat} {R : Nat → List Int} {i : Nat} (h : i < (srt [] (R v)).length) : (ER v R).take (i + 1) = (ER v R).take i ++ [((v : Int), (srt [] (R v))[i])] := by
  rw [List.take_succ_eq_append_getElem (by rw [er_len]; exact h)]
  simp [ER]

/-- The rows in memory, each in a block of its own. -/
structure UpAt (w : World) (g base n : Nat) (u : Nat → Value) (R : Nat → List Int) : Prop where
  lt : g < base
  bs : base ≤ w.heap.size
  row : w.rowIs g 25 n u
  own : ∀ v, v < n → w.ownsRow base 3 1 (u v) (R v).length ((R v).map (Value.int .i64))
  apart : ∀ v v', v < n → v' < n → v ≠ v' → (u v).ownBlock = none ∨ (u v).ownBlock ≠ (u v').ownBlock
theorem own_set {w : World} {base e size n : Nat} {v : Value} {xs : List Value} {p : Addr} (h : w.ownsRow base e size v n xs) (hp : p.block < base) (x : Value) : (w.setCell p x).ownsRow base e size v n xs := by
  refine ⟨h.1, ?_⟩
  rcases h.2 with hn | ⟨g, cap, cur, rfl, hb, hgg, rest⟩
  · exact .inl hn
  · exact .inr ⟨g, cap, cur, rfl, hb, by rw [Deep.blk_setCell_other _ _ _ _ (by omega)]; exact hgg, rest⟩
theorem UpAt.below {w w' : World} {g base n : Nat} {u : Nat → Value} {R : Nat → List Int} (h : UpAt w g base n u R) (hb : Below w.heap.size w w') : UpAt w' g base n u R :=
  ⟨h.lt, Nat.le_trans h.bs hb.size, h.row.of_block (hb.block _ h.row.lt), fun v hv => own_below (h.own v hv) hb, h.apart⟩
theorem UpAt.put {w w4 : World} {g base n lo : Nat} {u : Nat → Value} {R : Nat → List Int} {x : Int} {o : Obj} {g' cap' : Nat} {v' : Value} (h : UpAt w g base n u R) (hlo : lo < n) (hv' : v' = .slice (some ⟨g', 0, none⟩) ((R lo).length + 1) cap')
    (hown : w4.ownsRow base 3 1 v' ((R lo).length + 1) ((R lo).map (Value.int .i64) ++ [.int .i64 x])) (hg : (w.alloc o).grownBy w4 (u lo).ownBlock) (hat : (u lo).ownBlock = some g' ∨ g' = w.heap.size + 1) :
    UpAt (w4.setCell ⟨g, lo, none⟩ v') g base n (fun j => if j = lo then v' else u j) (fun j => if j = lo then R lo ++ [x] else R j) := by
  have hs : (w.alloc o).heap.size = w.heap.size + 1 := by simp
  have hlt := h.lt
  have hbs := h.bs
  have hgl := h.row.lt
  have hob : v'.ownBlock = some g' := by rw [hv']; rfl
  have hub : ∀ j, j < n → ∀ b, (u j).ownBlock = some b → base ≤ b ∧ b < w.heap.size := fun j hj b hb => (h.own j hj).lt b hb
  have hne : some g ≠ (u lo).ownBlock := fun e => by
    have := (hub lo hlo g e.symm).1
    omega
  refine ⟨h.lt, ?_, ?_, fun v hv => ?_, fun v v2 hv hv2 hvv => ?_⟩
  · have h1 := hg.size
    have h2 : (w4.setCell ⟨g, lo, none⟩ v').heap.size = w4.heap.size := by simp
    omega
  · refine (((h.row.alloc o).of_block (hg.block g (by omega) hne)).set lo v').congr (fun i _ => rfl)
  · refine own_set ?_ (by simpa using hlt) _
    show w4.ownsRow base 3 1 (if v = lo then v' else u v) (if v = lo then R lo ++ [x] else R v).length ((if v = lo then R lo ++ [x] else R v).map (Value.int .i64))
    by_cases e : v = lo
    · subst e
      rw [if_pos rfl, if_pos rfl]
      simpa using hown
    · rw [if_neg e, if_neg e]
      exact ((h.own v hv).alloc o).kept hg (h.apart v lo hv hlo e)
  · show (if v = lo then v' else u v : Value).ownBlock = none ∨ (if v = lo then v' else u v : Value).ownBlock ≠ (if v2 = lo then v' else u v2 : Value).ownBlock
    by_cases e : v = lo
    · subst e
      rw [if_pos rfl, if_neg (fun e => hvv e.symm), hob]
      right
      rcases hat with hat | hat
      · rcases h.apart v v2 hv hv2 hvv with h1 | h1
        · rw [hat] at h1; cases h1
        · rw [← hat]; exact h1
      · intro e
        have := (hub v2 hv2 g' e.symm).2
        omega
    · rw [if_neg e]
      by_cases e2 : v2 = lo
      · subst e2
        rw [if_pos rfl, hob]
        rcases hat with hat | hat
        · rw [← hat]; exact h.apart v v2 hv hv2 hvv
        · right
          intro e3
          have := (hub v hv g' e3).2
          omega
      · rw [if_neg e2]; exact h.apart v v2 hv hv2 hvv
theorem up_made (w : World) (n : Nat) : UpAt (w.alloc (.cells (madeCells #[.slice none 0 0] n) 25)) w.heap.size (w.heap.size + 1) n (fun _ => .slice none 0 0) (fun _ => []) :=
  ⟨by omega, by simp, World.rowIs_made _ _ _ _, fun v _ => World.ownsRow_nil _ _ _ _, fun _ _ _ _ _ => Or.inl rfl⟩
theorem UpAt.iat {w : World} {g base n : Nat} {u : Nat → Value} {R : Nat → List Int} (h : UpAt w g base n u R) {v : Nat} (hv : v < n) : ∃ a cap, u v = .slice a (R v).length cap ∧ IAt w a (R v) := iat_own (h.own v hv)

/-- A graph's edges are put behind each other in its variable; a row of numbers lies elsewhere. -/
structure GAcc (w : World) (B : Nat) (m : Int) (sv : Value) (es : List (Int × Int)) (a5 : Option Addr) (S : List Int) : Prop where
  box : w.heap[B]? = some (.cells #[.int .i64 m, sv] 30 (0, 0))
  own : w.ownsRow (B + 1) 59 2 sv es.length (cellsE es)
  row : IAt w a5 S
  far : ∀ g off, 0 < S.length → a5 = some ⟨g, off, none⟩ → B < g ∧ ∀ b, sv.ownBlock = some b → b ≠ g
theorem box_put {w : World} {b : Nat} {x y v : Value} {T : TypeId} (h : w.heap[b]? = some (.cells #[x, y] T (0, 0))) : (w.setCell ⟨b, 1, none⟩ v).heap[b]? = some (.cells #[x, v] T (0, 0)) := by
  rw [heap_setCell_same w b 1 _ _ v h]; rfl
theorem GAcc.keep {w w4 : World} {B : Nat} {m : Int} {sv : Value} {es : List (Int × Int)} {a5 : Option Addr} {S : List Int} {o : Obj} (h : GAcc w B m sv es a5 S) (hg : (w.drew.alloc o).grownBy w4 sv.ownBlock) :
    w4.heap[B]? = some (.cells #[.int .i64 m, sv] 30 (0, 0)) := by
  have hB : B < w.heap.size := (Array.getElem?_eq_some_iff.1 h.box).1
  rw [hg.block B (by simp; omega) (fun e => by have := (h.own.lt B e.symm).1; omega), Below.heap_alloc w.drew _ _ hB]
  exact h.box
theorem GAcc.put {w w4 : World} {B g' cap' : Nat} {m p q : Int} {sv sv' : Value} {es : List (Int × Int)} {a5 : Option Addr} {S : List Int} {o : Obj} (h : GAcc w B m sv es a5 S) (hg : (w.drew.alloc o).grownBy w4 sv.ownBlock) (hsv : sv' = .slice (some ⟨g', 0, none⟩) (es.length + 1) cap')
    (hown : w4.ownsRow (B + 1) 59 2 sv' (es.length + 1) (cellsE es ++ [.int .i64 p, .int .i64 q])) (hat : sv.ownBlock = some g' ∨ g' = w.heap.size + 1) : GAcc (w4.setCell ⟨B, 1, none⟩ sv') B m sv' (es ++ [(p, q)]) a5 S := by
  have hs : (w.drew.alloc o).heap.size = w.heap.size + 1 := by simp
  refine ⟨box_put (h.keep hg), ?_, fun h0 => ?_, fun g off h0 ha => ⟨(h.far g off h0 ha).1, fun b hb => ?_⟩⟩
  · refine own_set ?_ (by simp) _
    rw [cellsE_append, List.length_append]
    exact hown
  · obtain ⟨g, off, ha, hlt, hc⟩ := h.row h0
    obtain ⟨h1, h2⟩ := h.far g off h0 ha
    refine ⟨g, off, ha, ?_, fun j hj => ?_⟩
    · have := hg.size
      have h3 : (w4.setCell ⟨B, 1, none⟩ sv').heap.size = w4.heap.size := by simp
      omega
    · rw [World.cell?_setCell_other _ _ _ _ (by first | (simp; done) | (simp; omega)), hg.cell_far _ (by first | (simp; done) | (simp; omega)) (fun e => h2 g e.symm rfl)]
      exact cell_alloc_old (w := w.drew) (hc j hj) _
  · obtain ⟨g1, off1, ha1, hlt, _⟩ := h.row h0
    rw [ha] at ha1
    simp only [Option.some.injEq, Addr.mk.injEq, and_true] at ha1
    rw [hsv] at hb
    simp only [Value.ownBlock, Option.some.injEq] at hb
    rcases hat with hat | hat
    · rw [← hb]; exact (h.far g off h0 ha).2 g' hat
    · omega
theorem GAcc.below {w w' : World} {B : Nat} {m : Int} {sv : Value} {es : List (Int × Int)} {a5 : Option Addr} {S : List Int} (h : GAcc w B m sv es a5 S) (hb : Below w.heap.size w w') {a6 : Option Addr} {S' : List Int} (h6 : IAt w' a6 S') (hn : ∀ g off, a6 = some ⟨g, off, none⟩ → w.heap.size ≤ g) : GAcc w' B m sv es a6 S' := by
  have hB : B < w.heap.size := (Array.getElem?_eq_some_iff.1 h.box).1
  exact ⟨(hb.block B hB).trans h.box, own_below h.own hb, h6, fun g off _ ha => ⟨by have := hn g off ha; omega, fun b hb' => by have := hn g off ha; have := (h.own.lt b hb').2; omega⟩⟩
end Go.Proofs.Ytckcbaegehfkoaa
namespace Go.Proofs.Ytckcbaegehfkoaa
open Go.RowKit Go.Lib

theorem grown_refl (w : World) (r : Option Nat) : w.grownBy w r := ⟨rfl, rfl, rfl, Nat.le_refl _, fun _ _ _ => rfl⟩

theorem wp_append_any {P : Program} (w : World) {o : Oper} {a : Act} {K : Act → World → Prop} {Q : Exit → Act → World → Prop} (s x : Operand) (t : TypeId)
    (ho : o.op = .call { callee := .builtin .append, args := #[s, x], argTypes := #[t, t] })
    (base : Nat) (e : TypeId) (i : TypeInfo) (z : Value) (size bytes : Nat) (ht : P.underlying t = some (.slice e)) (hi : P.info? e = some i) (hz : i.zero = some z)
    (hsize : i.size = size) (hby : i.bytes = bytes) (hzs : z.cells.size = size) (hsz : 0 < size)
    (v : Value) (n : Nat) (xs : List Value) (hs : a.eval s = v) (hown : w.ownsRow base e size v n xs)
    (ad : Option Addr) (m c : Nat) (news : List Value) (hx : a.eval x = .slice ad m c) (hnil : ad = none → m = 0 ∧ c = 0) (hl : news.length = m * size) (hnews : ∀ p, ad = some p → ∀ j u, news[j]? = some u → w.cell? (p.add j) = some u) (h1 : ∀ u ∈ news, u.oneCell' = true)
    (h63 : n + m ≤ maxLen) (hbytes : (n + m) * bytes ≤ 140737488355328) (hbase : base ≤ w.heap.size)
    (h : ∀ v' w', w'.ownsRow base e size v' (n + m) (xs ++ news) → w.grownBy w' v.ownBlock → (v'.ownBlock = v.ownBlock ∨ v'.ownBlock = some w.heap.size) → K (a.put o.dst v') w') : o.wp P a w K Q := by
  cases ad with
  | none =>
    obtain ⟨rfl, rfl⟩ := hnil rfl
    obtain rfl : news = [] := List.eq_nil_of_length_eq_zero (by omega)
    have hrun := run_append_owned_none (P := P) (w := w) base t o.type e i size ht hi v n xs hown
    unfold Oper.wp
    simp [execOp, ho, resolve, invoke, builtin, hs, hx, hrun, Result.andThen]
    exact h v w (by simpa using hown) (grown_refl _ _) (Or.inl rfl)
  | some p =>
    obtain ⟨v', w', hr, h2, h3, _, h5⟩ := run_append_own_at (P := P) w base t o.type e i z size bytes ht hi hz hsize hby hzs hsz v n xs hown p m c news hl (hnews p rfl) h1 h63 hbytes hbase
    unfold Oper.wp execOp
    simp only [ho, resolve, invoke, builtin, Sem.run_bind, Sem.run_pure, Result.andThen_ok, List.map_toArray, List.map_cons, List.map_nil, hs, hx, hr]
    exact h v' w' h2 h3 h5

theorem step_append_any {P : Program} (w : World) {ops : Array Oper} {o : Oper} {a : Act} {K : Act → World → Prop} {Q : Exit → Act → World → Prop} {E : Prop} (hgd : o.guard = none) (s x : Operand) (t : TypeId)
    (ho : o.op = .call { callee := .builtin .append, args := #[s, x], argTypes := #[t, t] })
    (base : Nat) (e : TypeId) (i : TypeInfo) (z : Value) (size bytes : Nat) (ht : P.underlying t = some (.slice e)) (hi : P.info? e = some i) (hz : i.zero = some z)
    (hsize : i.size = size) (hby : i.bytes = bytes) (hzs : z.cells.size = size) (hsz : 0 < size)
    (v : Value) (n : Nat) (xs : List Value) (hs : a.eval s = v) (hown : w.ownsRow base e size v n xs)
    (ad : Option Addr) (m c : Nat) (news : List Value) (hx : a.eval x = .slice ad m c) (hnil : ad = none → m = 0 ∧ c = 0) (hl : news.length = m * size) (hnews : ∀ p, ad = some p → ∀ j u, news[j]? = some u → w.cell? (p.add j) = some u) (h1 : ∀ u ∈ news, u.oneCell' = true)
    (h63 : n + m ≤ maxLen) (hbytes : (n + m) * bytes ≤ 140737488355328) (hbase : base ≤ w.heap.size)
    (h : ∀ v' w', w'.ownsRow base e size v' (n + m) (xs ++ news) → w.grownBy w' v.ownBlock → (v'.ownBlock = v.ownBlock ∨ v'.ownBlock = some w.heap.size) → K (a.put o.dst v') w') :
    if Region.wanted o (yielded ops a.tmps) = true then Oper.wp P o a w K Q else E := by
  have hw : Region.wanted o (yielded ops a.tmps) = true := by simp [Region.wanted, hgd]
  rw [if_pos hw]
  exact wp_append_any w s x t ho base e i z size bytes ht hi hz hsize hby hzs hsz v n xs hs hown ad m c news hx hnil hl hnews h1 h63 hbytes hbase h

theorem wpList_append_any {P : Program} (w : World) {ops : Array Oper} {rest : List Oper} {o : Oper} {a : Act} {Q : Exit → Act → World → Prop} (hgd : o.guard = none) (s x : Operand) (t : TypeId)
    (ho : o.op = .call { callee := .builtin .append, args := #[s, x], argTypes := #[t, t] })
    (base : Nat) (e : TypeId) (i : TypeInfo) (z : Value) (size bytes : Nat) (ht : P.underlying t = some (.slice e)) (hi : P.info? e = some i) (hz : i.zero = some z)
    (hsize : i.size = size) (hby : i.bytes = bytes) (hzs : z.cells.size = size) (hsz : 0 < size)
    (v : Value) (n : Nat) (xs : List Value) (hs : a.eval s = v) (hown : w.ownsRow base e size v n xs)
    (ad : Option Addr) (m c : Nat) (news : List Value) (hx : a.eval x = .slice ad m c) (hnil : ad = none → m = 0 ∧ c = 0) (hl : news.length = m * size) (hnews : ∀ p, ad = some p → ∀ j u, news[j]? = some u → w.cell? (p.add j) = some u) (h1 : ∀ u ∈ news, u.oneCell' = true)
    (h63 : n + m ≤ maxLen) (hbytes : (n + m) * bytes ≤ 140737488355328) (hbase : base ≤ w.heap.size)
    (h : ∀ v' w', w'.ownsRow base e size v' (n + m) (xs ++ news) → w.grownBy w' v.ownBlock → (v'.ownBlock = v.ownBlock ∨ v'.ownBlock = some w.heap.size) → wpList P ops Q rest (a.put o.dst v') w') : wpList P ops Q (o :: rest) a w :=
  wpList_plain hgd fun _ hK => wp_append_any w s x t ho base e i z size bytes ht hi hz hsize hby hzs hsz v n xs hs hown ad m c news hx hnil hl hnews h1 h63 hbytes hbase fun v' w' h2 h3 h4 => hK _ _ (h v' w' h2 h3 h4)

/-- Edges do not lie in a graph's own variable. -/
theorem eat_off_box {w : World} {B : Nat} {n : Int} {sa : Option Addr} {sl sc : Nat} {T : TypeId} {fr : Nat × Nat} {a : Option Addr} {ys : List (Int × Int)} (hB : w.heap[B]? = some (.cells #[.int .i64 n, .slice sa sl sc] T fr)) (h : EAt w a ys) : ∀ g off, 0 < ys.length → a = some ⟨g, off, none⟩ → g ≠ B := fun g off h0 ha e => by
  subst e
  obtain ⟨g', off', ha', _, hc⟩ := h h0
  rw [ha] at ha'
  simp only [Option.some.injEq, Addr.mk.injEq, and_true] at ha'
  obtain ⟨rfl, rfl⟩ := ha'
  have h1 := (hc 0 h0).1
  have h2 := (hc 0 h0).2
  rw [cell_of_heap hB] at h1 h2
  match off, h1, h2 with
  | 0, h1, h2 => simp at h2
  | 1, h1, h2 => simp at h1
  | k + 2, h1, h2 => simp at h1
theorem hid2 {p q : Prop} (h : p) (h' : q) : p ∧ q := ⟨h, h'⟩
end Go.Proofs.Ytckcbaegehfkoaa
namespace Go.Proofs.Ytckcbaegehfkoaa

/-- A ring (E3). -/
def Ring (c : List Int) : Prop := 3 ≤ c.length ∧ c.Nodup
/-- From place s on, the one way round; and the other. -/
def oneL (c : List Int) (s : Nat) : List Int := (List.range c.length).map (fun i => c.getD ((s + i) % c.length) 0)
def twoL (c : List Int) (s : Nat) : List Int := (List.range c.length).map (fun i => c.getD ((s + c.length - i) % c.length) 0)
theorem oneL_len (c : List Int) (s : Nat) : (oneL c s).length = c.length := by simp [oneL]
theorem twoL_len (c : List Int) (s : Nat) : (twoL c s).length = c.length := by simp [twoL]
theorem oneL_at {c : List Int} {s i : Nat} (h : i < (oneL c s).length) : (oneL c s)[i] = c.getD ((s + i) % c.length) 0 := by simp [oneL]
theorem twoL_at {c : List Int} {s i : Nat} (h : i < (twoL c s).length) : (twoL c s)[i] = c.getD ((s + c.length - i) % c.length) 0 := by simp [twoL]
theorem oneL_zero (c : List Int) : oneL c 0 = c := List.ext_getElem (oneL_len c 0) (fun i h1 h2 => by
  rw [oneL_at h1, Nat.zero_add, Nat.mod_eq_of_lt h2]; simp [List.getD, h2])
/-- A way round. -/
def Round (c L : List Int) : Prop := ∃ s, s < c.length ∧ (L = oneL c s ∨ L = twoL c s)
theorem Round.len {c L : List Int} (h : Round c L) : L.length = c.length := by
  obtain ⟨s, _, rfl | rfl⟩ := h
  · exact oneL_len c s
  · exact twoL_len c s
/-- Turn (E3): the least of the ways round. -/
def TurnIs (c L : List Int) : Prop := (¬ Ring c ∧ L = c) ∨ (Ring c ∧ Round c L ∧ ∀ M, Round c M → lexL M L = false)
theorem TurnIs.one {c L M : List Int} (h : TurnIs c L) (k : TurnIs c M) : L = M := by
  rcases h with ⟨h, rfl⟩ | ⟨h, h1, h2⟩
  · rcases k with ⟨_, rfl⟩ | ⟨k, _⟩
    · rfl
    · exact absurd k h
  · rcases k with ⟨k, _⟩ | ⟨_, k1, k2⟩
    · exact absurd h k
    · exact lexL_tri (k2 L h1) (h2 M k1)
theorem TurnIs.len {c L : List Int} (h : TurnIs c L) : L.length = c.length := by
  rcases h with ⟨_, rfl⟩ | ⟨_, h, _⟩
  · rfl
  · exact h.len
/-- The best so far, of the ways from the first k places on. -/
def BestTo (c B : List Int) (k : Nat) : Prop := Round c B ∧ ∀ s, s < k → lexL (oneL c s) B = false ∧ lexL (twoL c s) B = false
theorem lex_low {M A B : List Int} (h : lexL M B = false) (k : A = B ∨ lexL A B = true) : lexL M A = false := by
  rcases k with rfl | k
  · exact h
  · cases h2 : lexL M A with
    | false => rfl
    | true => rw [lexL_trans h2 k] at h; cases h
theorem BestTo.low {c A B : List Int} {k : Nat} (h : BestTo c B k) (hA : Round c A) (hk : lexL A B = true) : BestTo c A k :=
  ⟨hA, fun s hs => ⟨lex_low (h.2 s hs).1 (Or.inr hk), lex_low (h.2 s hs).2 (Or.inr hk)⟩⟩
theorem BestTo.put {c B B1 B2 : List Int} {k : Nat} (h : BestTo c B k) (hk : k < c.length) (h1 : B1 = if lexL (oneL c k) B = true then oneL c k else B) (h2 : B2 = if lexL (twoL c k) B1 = true then twoL c k else B1) : BestTo c B2 (k + 1) := by
  have a1 : BestTo c B1 k ∧ lexL (oneL c k) B1 = false := by
    by_cases e : lexL (oneL c k) B = true
    · rw [if_pos e] at h1; subst h1; exact ⟨h.low ⟨k, hk, Or.inl rfl⟩ e, lexL_irrefl _⟩
    · rw [if_neg e] at h1; subst h1; exact ⟨h, by simpa using e⟩
  have a2 : BestTo c B2 k ∧ lexL (oneL c k) B2 = false ∧ lexL (twoL c k) B2 = false := by
    by_cases e : lexL (twoL c k) B1 = true
    · rw [if_pos e] at h2; subst h2; exact ⟨a1.1.low ⟨k, hk, Or.inr rfl⟩ e, lex_low a1.2 (Or.inr e), lexL_irrefl _⟩
    · rw [if_neg e] at h2; subst h2; exact ⟨a1.1, a1.2, by simpa using e⟩
  refine ⟨a2.1.1, fun s hs => ?_⟩
  by_cases e : s < k
  · exact a2.1.2 s e
  · obtain rfl : s = k := by omega
    exact a2.2
theorem BestTo.turn {c B : List Int} (h : BestTo c B c.length) (hc : Ring c) : TurnIs c B := Or.inr ⟨hc, h.1, fun M hM => by
  obtain ⟨s, hs, rfl | rfl⟩ := hM
  · exact (h.2 s hs).1
  · exact (h.2 s hs).2⟩

theorem mod_sub_self {n p : Nat} : (p + n - p) % n = 0 := by
  rw [Nat.add_sub_cancel_left]; exact Nat.mod_self n
/-- A way round of a way round is a way round. -/
theorem getD_mod {c : List Int} {n : Nat} {f : Nat → Nat} (L : List Int) (hL : L = (List.range c.length).map (fun i => c.getD (f i % c.length) 0)) (hn : n = c.length) (i : Nat) (hi : i < n) : L.getD i 0 = c.getD (f i % c.length) 0 := by
  subst hL
  subst hn
  simp [List.getD, hi]
theorem one_one {c : List Int} (hc : 0 < c.length) (s t : Nat) : oneL (oneL c s) t = oneL c ((s + t) % c.length) := by
  refine List.ext_getElem (by rw [oneL_len, oneL_len, oneL_len]) (fun i h1 h2 => ?_)
  rw [oneL_at h1, oneL_at h2, oneL_len]
  rw [getD_mod (f := fun i => s + i) (oneL c s) rfl rfl _ (Nat.mod_lt _ hc)]
  congr 1
  simp only [Nat.add_mod_mod, Nat.mod_add_mod, Nat.add_assoc]
theorem sub_mod' {n a b : Nat} (hb : b ≤ n) : (a + n - b) % n = (a % n + n - b) % n := by
  have h : a + n - b = a % n + n - b + n * (a / n) := by
    have := Nat.mod_add_div a n
    omega
  rw [h, Nat.add_mul_mod_self_left]
theorem two_one {c : List Int} (hc : 0 < c.length) (s t : Nat) : oneL (twoL c s) t = twoL c ((s + c.length - t % c.length) % c.length) := by
  refine List.ext_getElem (by rw [oneL_len, twoL_len, twoL_len]) (fun i h1 h2 => ?_)
  rw [oneL_at h1, twoL_at h2, twoL_len]
  have hlt := Nat.mod_lt (t + i) hc
  rw [getD_mod (f := fun i => s + c.length - i) (twoL c s) rfl rfl _ hlt]
  have hi : i < c.length := by rw [twoL_len] at h2; exact h2
  congr 1
  have ht := Nat.mod_lt t hc
  show (s + c.length - (t + i) % c.length) % c.length = ((s + c.length - t % c.length) % c.length + c.length - i) % c.length
  rw [← sub_mod' (Nat.le_of_lt hi)]
  have e : (t + i) % c.length = (t % c.length + i) % c.length := by rw [Nat.mod_add_mod]
  rw [e]
  by_cases h : t % c.length + i < c.length
  · rw [Nat.mod_eq_of_lt h]
    have : s + c.length - t % c.length + c.length - i = s + c.length - (t % c.length + i) + c.length := by omega
    rw [this, Nat.add_mod_right]
  · have e2 : (t % c.length + i) % c.length = t % c.length + i - c.length := by
      rw [Nat.mod_eq_sub_mod (by omega), Nat.mod_eq_of_lt (by omega)]
    rw [e2]
    congr 1
    omega
theorem one_two {c : List Int} (hc : 0 < c.length) (s t : Nat) : twoL (oneL c s) t = twoL c ((s + t) % c.length) := by
  refine List.ext_getElem (by rw [twoL_len, oneL_len, twoL_len]) (fun i h1 h2 => ?_)
  rw [twoL_at h1, twoL_at h2, oneL_len]
  have hi : i < c.length := by rw [twoL_len] at h2; exact h2
  rw [getD_mod (f := fun i => s + i) (oneL c s) rfl rfl _ (Nat.mod_lt _ hc)]
  congr 1
  show (s + (t + c.length - i) % c.length) % c.length = ((s + t) % c.length + c.length - i) % c.length
  rw [Nat.add_mod_mod, ← sub_mod' (Nat.le_of_lt hi)]
  congr 1
  omega
theorem two_two {c : List Int} (hc : 0 < c.length) (s t : Nat) : twoL (twoL c s) t = oneL c ((s + c.length - t % c.length) % c.length) := by
  refine List.ext_getElem (by rw [twoL_len, twoL_len, oneL_len]) (fun i h1 h2 => ?_)
  rw [twoL_at h1, oneL_at h2, twoL_len]
  have hi : i < c.length := by rw [oneL_len] at h2; exact h2
  have hlt := Nat.mod_lt (t + c.length - i) hc
  rw [getD_mod (f := fun i => s + c.length - i) (twoL c s) rfl rfl _ hlt]
  congr 1
  show (s + c.length - (t + c.length - i) % c.length) % c.length = ((s + c.length - t % c.length) % c.length + i) % c.length
  have ht := Nat.mod_lt t hc
  rw [Nat.mod_add_mod, sub_mod' (a := t) (Nat.le_of_lt hi)]
  by_cases h : t % c.length < i
  · rw [Nat.mod_eq_of_lt (a := t % c.length + c.length - i) (by omega), show s + c.length - t % c.length + i = s + c.length - (t % c.length + c.length - i) + c.length by omega, Nat.add_mod_right]
  · have e2 : (t % c.length + c.length - i) % c.length = t % c.length - i := by
      rw [show t % c.length + c.length - i = t % c.length - i + c.length by omega, Nat.add_mod_right, Nat.mod_eq_of_lt (by omega)]
    rw [e2]
    congr 1
    omega
/-- The ways round of a way round are those of the ring. -/
theorem Round.trans {c L M : List Int} (h : Round c L) (k : Round L M) : Round c M := by
  have hl := h.len
  obtain ⟨t, ht, hM⟩ := k
  have hc : 0 < c.length := by omega
  obtain ⟨s, hs, rfl | rfl⟩ := h
  · rcases hM with rfl | rfl
    · exact ⟨_, Nat.mod_lt _ hc, Or.inl (one_one hc s t)⟩
    · exact ⟨_, Nat.mod_lt _ hc, Or.inr (one_two hc s t)⟩
  · rcases hM with rfl | rfl
    · exact ⟨_, Nat.mod_lt _ hc, Or.inr (two_one hc s t)⟩
    · exact ⟨_, Nat.mod_lt _ hc, Or.inl (two_two hc s t)⟩
theorem Round.symm {c L : List Int} (h : Round c L) : Round L c := by
  have hl := h.len
  obtain ⟨s, hs, rfl | rfl⟩ := h
  · refine ⟨(c.length - s) % c.length, by rw [hl]; exact Nat.mod_lt _ (by omega), Or.inl ?_⟩
    rw [one_one (by omega), Nat.add_mod_mod, show s + (c.length - s) = c.length by omega, Nat.mod_self, oneL_zero]
  · refine ⟨s, by rw [hl]; exact hs, Or.inr ?_⟩
    rw [two_two (by omega), Nat.mod_eq_of_lt hs, mod_sub_self, oneL_zero]
theorem Round.mem {c L : List Int} (h : Round c L) {x : Int} (hx : x ∈ L) : x ∈ c := by
  have hl := h.len
  have hp := List.length_pos_of_mem hx
  have hc : 0 < c.length := by omega
  obtain ⟨s, hs, rfl | rfl⟩ := h
  · obtain ⟨i, _, rfl⟩ := List.mem_map.1 hx
    have := Nat.mod_lt (s + i) hc
    simp [List.getD, this]
  · obtain ⟨i, _, rfl⟩ := List.mem_map.1 hx
    have := Nat.mod_lt (s + c.length - i) hc
    simp [List.getD, this]
theorem nodup_of_sub {a b : List Int} (h : a.Nodup) (hl : b.length = a.length) (hs : ∀ x ∈ a, x ∈ b) : b.Nodup := by
  induction a generalizing b with
  | nil => simp at hl; subst hl; simp
  | cons x a ih =>
    have hx : x ∈ b := hs x (by simp)
    obtain ⟨h1, h2⟩ := List.nodup_cons.1 h
    have hle : (b.erase x).length = a.length := by rw [List.length_erase_of_mem hx]; simp at hl; omega
    have hsub : ∀ e ∈ a, e ∈ b.erase x := fun e he => (List.mem_erase_of_ne (fun e' => h1 (by rw [← e']; exact he))).2 (hs e (List.mem_cons_of_mem _ he))
    have hn := ih h2 hle hsub
    have hxn : x ∉ b.erase x := fun hm => by
      have := len_le_subI (a := x :: a) (b := b.erase x) h (fun e he => by
        rcases List.mem_cons.1 he with rfl | he
        · exact hm
        · exact hsub e he)
      simp at this
      omega
    exact (List.perm_cons_erase hx).nodup_iff.2 (List.nodup_cons.2 ⟨hxn, hn⟩)
theorem Round.ring {c L : List Int} (h : Round c L) (hc : Ring c) : Ring L := ⟨by rw [h.len]; exact hc.1, nodup_of_sub hc.2 h.len (fun _ hx => h.symm.mem hx)⟩
/-- A ring's Turn is the Turn of each of its ways round. -/
theorem TurnIs.round {c d L : List Int} (h : TurnIs c L) (hd : Round c d) (hc : Ring c) : TurnIs d L := by
  rcases h with ⟨h, _⟩ | ⟨_, h1, h2⟩
  · exact absurd hc h
  · exact Or.inr ⟨hd.ring hc, hd.symm.trans h1, fun M hM => h2 M (hd.trans hM)⟩
theorem TurnIs.again {c L : List Int} (h : TurnIs c L) : TurnIs L L := by
  by_cases hc : Ring c
  · have h' := h
    rcases h with ⟨h, _⟩ | ⟨_, h1, _⟩
    · exact absurd hc h
    · exact h'.round h1 hc
  · rcases h with ⟨_, rfl⟩ | ⟨h, _⟩
    · exact Or.inl ⟨hc, rfl⟩
    · exact absurd h hc
/-- The way back from the same place. -/
theorem two_back {c : List Int} (hc : 0 < c.length) : twoL c 0 = (c.headD 0) :: c.tail.reverse := by
  obtain ⟨x, l, rfl⟩ : ∃ x l, c = x :: l := by
    cases c with
    | nil => simp at hc
    | cons x l => exact ⟨x, l, rfl⟩
  refine List.ext_getElem (by rw [twoL_len]; simp) (fun i h1 h2 => ?_)
  rw [twoL_at h1]
  cases i with
  | zero => simp
  | succ j =>
    have hj : j < l.length := by rw [twoL_len] at h1; simpa using h1
    simp only [List.headD_cons, List.tail_cons, List.getElem_cons_succ, List.getElem_reverse, List.length_cons, Nat.zero_add]
    rw [Nat.mod_eq_of_lt (by omega), show l.length + 1 - (j + 1) = (l.length - 1 - j) + 1 by omega]
    simp [List.getD]
    rw [List.getElem?_eq_getElem (by omega)]
    rfl
/-- The Turn of a ring begins with its least number and goes on to the lesser neighbour. -/
theorem TurnIs.first {c L : List Int} (h : TurnIs c L) (hc : Ring c) : ∀ (h1 : 1 < L.length), L[1] < L[L.length - 1] := by
  intro h1
  have hr : Ring L := by
    rcases h with ⟨h, _⟩ | ⟨_, h2, _⟩
    · exact absurd hc h
    · exact h2.ring hc
  have hself := h.again
  rcases hself with ⟨h2, _⟩ | ⟨_, _, h2⟩
  · exact absurd hr h2
  · have h3 := h2 (twoL L 0) ⟨0, by omega, Or.inr rfl⟩
    rw [two_back (by omega)] at h3
    have hl := hr.1
    match L, h1, hr, h3, hl with
    | x :: z :: w :: l, h1, hr, h3, hl =>
      have hne : (x :: z :: w :: l).tail.reverse ≠ [] := by simp
      obtain ⟨u, t, ht⟩ := List.exists_cons_of_ne_nil hne
      have hu : u = (x :: z :: w :: l)[(x :: z :: w :: l).length - 1]'(by simp) := by
        have : ((x :: z :: w :: l).tail.reverse)[0]'(by rw [ht]; simp) = u := by rw [List.getElem_of_eq ht]; rfl
        rw [← this, List.getElem_reverse, List.getElem_tail]
        congr 1
      rw [ht] at h3
      simp only [List.headD_cons, lexL, Int.lt_irrefl, decide_false, beq_self_eq_true, Bool.true_and, Bool.false_or] at h3
      rw [Bool.or_eq_false_iff, decide_eq_false_iff_not] at h3
      have hz : z ≠ u := by
        intro e
        have := List.pairwise_iff_getElem.1 hr.2 1 ((x :: z :: w :: l).length - 1) (by simp) (by simp) (by simp)
        apply this
        rw [← hu, ← e]
        rfl
      rw [← hu]
      show z < u
      have := h3.1
      omega
end Go.Proofs.Ytckcbaegehfkoaa
