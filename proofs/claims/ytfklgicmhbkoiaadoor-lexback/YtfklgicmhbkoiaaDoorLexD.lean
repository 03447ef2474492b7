/-
  lex.Lex: what it answers, for every text: its tokens, as the document says them, or the first error and its place.
-/
import Derived.Test.YtfklgicmhbkoiaaDoorLexC
import Derived.Deep.RegionHeld3
import Derived.WalkMore
import Derived.Deep.QuietTactic
import Derived.BigQuiet
import Derived.Deep.Cut
import Derived.Deep.CutRange
import Derived.Outline
namespace Go.Proofs.YtfklgicmhbkoiaaDoor
open Go.RowKit Go.Lib

theorem Tryd.info34 : (Tryd.prog.info? 34).map (fun i => (i.zero, i.size, i.bytes)) = some (some (.agg #[.int .i64 0, .int .i64 0, .string { data := #[] }, .int .i64 0]), 4, 40) := by kernel_rfl
theorem own_below {w w' : World} {base : Nat} {e : TypeId} {size : Nat} {v : Value} {n : Nat} {xs : List Value} (h : w.ownsRow base e size v n xs) (hb : Below w.heap.size w w') : w'.ownsRow base e size v n xs := by
  refine ⟨h.1, ?_⟩
  rcases h.2 with h2 | ⟨g, cap, cur, hv, hg, hgc, r⟩
  · exact Or.inl h2
  · exact Or.inr ⟨g, cap, cur, hv, hg, (hb.block g (Array.getElem?_eq_some_iff.1 hgc).1).trans hgc, r⟩
theorem extract_mid (s : ByteArray) (p q : Nat) : (s.extract p q).data.toList = (s.data.toList.drop p).take (q - p) := by
  rw [ByteArray.data_extract, Array.toList_extract]
theorem drop_posR {rs : List Nat} {k : Nat} (h : k ≤ rs.length) : (flat rs).drop (posR rs k) = flat (rs.drop k) := by
  have e : flat rs = flat (rs.take k) ++ flat (rs.drop k) := by rw [← flat_append, List.take_append_drop]
  have _h := h
  rw [e]
  unfold posR
  rw [List.drop_left]
theorem extract_txt {s : ByteArray} {rs : List Nat} (hl : s.data.toList = flat rs) {k : Nat} (h : k < rs.length) : (s.extract (posR rs k) (posR rs (toK rs k h))).data.toList = txt rs k h := by
  rw [extract_mid, hl, drop_posR (by omega), posR_toK h, Nat.add_sub_cancel_left, drop_at_k h]
  have e : rs[k] :: rs.drop (k + 1) = (rs[k] :: more rs[k] (rs.drop (k + 1))) ++ (rs.drop (k + 1)).drop (more rs[k] (rs.drop (k + 1))).length := by
    rw [List.cons_append]
    congr 1
    conv => lhs; rw [← List.take_append_drop (more rs[k] (rs.drop (k + 1))).length (rs.drop (k + 1))]
    rw [← more_take]
  rw [e, flat_append, List.take_left]
  rfl
theorem more_mem {r : Nat} : ∀ {l : List Nat} {x : Nat}, x ∈ more r l → goes r (kin x) = true
  | [], x, h => by simp [more] at h
  | y :: l, x, h => by
    unfold more at h
    rw [List.takeWhile_cons] at h
    by_cases hy : goes r (kin y) = true
    · rw [if_pos hy] at h
      rcases List.mem_cons.1 h with rfl | h
      · exact hy
      · exact more_mem (r := r) (l := l) h
    · rw [if_neg hy] at h; simp at h
theorem kin_dig {r : Nat} (h : kin r = 3) : 48 ≤ r ∧ r ≤ 57 := by
  unfold kin at h
  repeat' split at h
  all_goals omega
theorem enc_dig {r : Nat} (h : kin r = 3) : ∀ b ∈ enc r, isDig b := by
  have := kin_dig h
  rw [enc1 (by omega)]
  intro b hb
  simp at hb
  subst hb
  unfold isDig
  rw [u8n _ (by omega)]
  exact this
theorem txt_dig {rs : List Nat} {k : Nat} (h : k < rs.length) (h3 : kin rs[k] = 3) : txt rs k h ≠ [] ∧ ∀ b ∈ txt rs k h, isDig b := by
  unfold txt
  refine ⟨?_, ?_⟩
  · intro e
    have h1 := congrArg List.length e
    rw [flat_cons, List.length_append, List.length_nil] at h1
    have h2 := enc_pos rs[k]
    omega
  · intro b hb
    obtain ⟨l, hl, hbl⟩ := List.mem_flatten.1 hb
    obtain ⟨x, hx, rfl⟩ := List.mem_map.1 hl
    refine enc_dig (r := x) ?_ b hbl
    rcases List.mem_cons.1 hx with rfl | hx
    · exact h3
    · have hg := more_mem hx
      have n35 : ¬ rs[k] = 35 := by have := kin_dig h3; omega
      unfold goes at hg
      rw [if_neg n35, if_pos (Or.inl h3), h3] at hg
      simpa using hg

theorem RunesAt.drew {w : World} {a : Option Addr} {rs : List Nat} (h : RunesAt w a rs) : RunesAt w.drew a rs := h.below (Below.refl _ _).drew
def StepK (rs : List Nat) (k r p q : Nat) : Prop := ∃ h : k < rs.length, r = rs[k] ∧ p = posR rs k ∧ q = toK rs k h

theorem lex_step {s : ByteArray} {rs : List Nat} {k r p q : Nat} {ts : List Tk} (hs : s.size ≤ 1000000) (hl : s.data.toList = flat rs) (hst : StepK rs k r p q) (hp : passed r = false) (hu : Upto rs k ts) (cap : Nat) (a : Option Addr) :
    ∃ (q2 : Nat) (tx : ByteArray) (tk : Tk) (er : Nat), p ≤ q2 ∧ q2 ≤ s.size ∧ s.extract p q2 = tx ∧
      (∀ W, RunesAt W a rs → Calls Tryd.prog 21 #[.string s, .slice a rs.length cap, .int .i64 q] W fun e w' => e = .returned (.int .i64 q2) ∧ w' = W) ∧
      (∀ W, Calls Tryd.prog 20 #[.agg #[.int .i64 p, .int .i32 r], .string tx] W fun e w' => e = .returned (.tuple #[.agg #[.int .i64 tk.kind, .int .i64 tk.pos, .string ⟨tk.text.toArray⟩, .int .i64 tk.num], .int .i64 er]) ∧ Below W.heap.size W w') ∧
      (er = 0 → Upto rs q (ts ++ [tk])) ∧ (er ≠ 0 → LexT 0 rs ts (p, er)) := by
  obtain ⟨h1, rfl, rfl, rfl⟩ := hst
  have hsz : s.size = (flat rs).length := by rw [← size_data, hl]
  have hN : rs.length ≤ 1000000 := by have := flat_len rs; omega
  have hle := toK_le h1
  have hx := extract_txt hl h1
  obtain ⟨tk, er, hte⟩ := pair_of (tokOf rs[k] (posR rs k) (txt rs k h1))
  refine ⟨posR rs (toK rs k h1), _, tk, er, by rw [posR_toK h1]; omega, ?_, rfl, fun W hW => place_any s a cap rs _ W hle.2 hN hsz hW, fun W => ?_, fun h => upto_tok h1 hp (by rw [hte, h]) hu, fun h => upto_bad h1 hp hte h hu⟩
  · rw [hsz]; exact flat_take rs _
  · have := token_any rs[k] (posR rs k) (s.extract (posR rs k) (posR rs (toK rs k h1))) W (by rw [ByteArray.size_extract]; omega) (fun h3 => by rw [hx]; exact txt_dig h1 h3)
    rw [hx, hte] at this
    exact this

theorem keep_a {w2 w3 : World} {x y : Value} {t : TypeId} (h : Below (w2.alloc (.cells #[x, y] t)).drew.heap.size (w2.alloc (.cells #[x, y] t)).drew w3) : w3.cell? ⟨w2.heap.size, 0, none⟩ = some x ∧ w3.cell? ⟨w2.heap.size, 1, none⟩ = some y := by
  have hs : (w2.alloc (.cells #[x, y] t)).drew.heap.size = w2.heap.size + 1 := by simp
  exact ⟨(h.cell (p := ⟨w2.heap.size, 0, none⟩) (by simp)).trans (by simp), (h.cell (p := ⟨w2.heap.size, 1, none⟩) (by simp)).trans (by simp)⟩
theorem keep_b {w2 w3 : World} {x y : Value} {t : TypeId} {o : Obj} (h : Below ((w2.alloc (.cells #[x, y] t)).alloc o).drew.heap.size ((w2.alloc (.cells #[x, y] t)).alloc o).drew w3) : w3.cell? ⟨w2.heap.size, 0, none⟩ = some x ∧ w3.cell? ⟨w2.heap.size, 1, none⟩ = some y := by
  have hs : ((w2.alloc (.cells #[x, y] t)).alloc o).drew.heap.size = w2.heap.size + 1 + 1 := by simp
  exact ⟨(h.cell (p := ⟨w2.heap.size, 0, none⟩) (by simp; omega)).trans (by simp), (h.cell (p := ⟨w2.heap.size, 1, none⟩) (by simp; omega)).trans (by simp)⟩
theorem keep_z {w2 w3 : World} {o : Obj} {x y z u : Value} {t : TypeId} (h : Below ((w2.alloc o).alloc (.cells #[x, y, z, u] t (0, 0))).drew.heap.size ((w2.alloc o).alloc (.cells #[x, y, z, u] t (0, 0))).drew w3) : w3.heap[w2.heap.size + 1]? = some (.cells #[x, y, z, u] t (0, 0)) := by
  have hs : (w2.alloc o).heap.size = w2.heap.size + 1 := by simp
  rw [h.block _ (by simp)]
  show ((w2.alloc o).alloc (.cells #[x, y, z, u] t (0, 0))).heap[w2.heap.size + 1]? = _
  rw [← hs]
  exact heap_alloc_new _ _

theorem keep_c {w3 : World} {b : Nat} {x y : Value} (h : w3.cell? ⟨b, 0, none⟩ = some x ∧ w3.cell? ⟨b, 1, none⟩ = some y) (o : Obj) : (w3.alloc o).cell? ⟨b, 0, none⟩ = some x ∧ (w3.alloc o).cell? ⟨b, 1, none⟩ = some y := by
  have hb : b < w3.heap.size := by
    rcases Nat.lt_or_ge b w3.heap.size with hn | hn
    · exact hn
    · have h0 : w3.heap[b]? = none := Array.getElem?_eq_none hn
      have := h.1
      simp [World.cell?, h0] at this
  have hB : Below w3.heap.size w3 (w3.alloc o) := (Below.refl _ _).alloc (Nat.le_refl _) _
  exact ⟨(hB.cell (p := ⟨b, 0, none⟩) hb).trans h.1, (hB.cell (p := ⟨b, 1, none⟩) hb).trans h.2⟩

theorem end_a {w2 w3 : World} {x y : Value} {t : TypeId} (h : Below (w2.alloc (.cells #[x, y] t)).drew.heap.size (w2.alloc (.cells #[x, y] t)).drew w3) (o : Obj) :
    w2.heap.size < w3.heap.size ∧ (w3.alloc o).heap[w3.heap.size]? = some o ∧ (w3.alloc o).cell? ⟨w2.heap.size, 0, none⟩ = some x ∧ Below w2.heap.size w2 (w3.alloc o) := by
  have hs : (w2.alloc (.cells #[x, y] t)).drew.heap.size = w2.heap.size + 1 := by simp
  have h1 := h.size
  rw [hs] at h1
  have hb : Below w2.heap.size w2 w3 := (((Below.refl _ _).alloc (Nat.le_refl _) _).drew).trans (h.mono (by omega))
  exact ⟨by omega, heap_alloc_new _ _, (keep_c (keep_a h) _).1, hb.alloc (by omega) _⟩
theorem four_all {w : World} {b : Nat} {x y z u : Value} {T : TypeId} (h : w.heap[b]? = some (.cells #[x, y, z, u] T (0, 0))) (x' y' z' u' : Value) :
    ((((w.setCell ⟨b, 0, none⟩ x').setCell ⟨b, 1, none⟩ y').setCell ⟨b, 2, none⟩ z').setCell ⟨b, 3, none⟩ u').heap[b]? = some (.cells #[x', y', z', u'] T (0, 0)) := by
  rw [Lib.heap_setCell_same (Lib.heap_setCell_same (Lib.heap_setCell_same (Lib.heap_setCell_same h x') y') z') u']
  rfl
theorem end_b {w2 w3 : World} {x y : Value} {t t2 : TypeId} {z1 z2 z3 z4 : Value} (h : Below ((w2.alloc (.cells #[x, y] t)).alloc (.cells #[z1, z2, z3, z4] t2 (0, 0))).drew.heap.size ((w2.alloc (.cells #[x, y] t)).alloc (.cells #[z1, z2, z3, z4] t2 (0, 0))).drew w3) (x' y' z' u' : Value) :
    ((((w3.setCell ⟨w2.heap.size + 1, 0, none⟩ x').setCell ⟨w2.heap.size + 1, 1, none⟩ y').setCell ⟨w2.heap.size + 1, 2, none⟩ z').setCell ⟨w2.heap.size + 1, 3, none⟩ u').heap[w2.heap.size + 1]? = some (.cells #[x', y', z', u'] t2 (0, 0)) ∧
    ((((w3.setCell ⟨w2.heap.size + 1, 0, none⟩ x').setCell ⟨w2.heap.size + 1, 1, none⟩ y').setCell ⟨w2.heap.size + 1, 2, none⟩ z').setCell ⟨w2.heap.size + 1, 3, none⟩ u').cell? ⟨w2.heap.size, 0, none⟩ = some x ∧
    Below w2.heap.size w2 ((((w3.setCell ⟨w2.heap.size + 1, 0, none⟩ x').setCell ⟨w2.heap.size + 1, 1, none⟩ y').setCell ⟨w2.heap.size + 1, 2, none⟩ z').setCell ⟨w2.heap.size + 1, 3, none⟩ u') := by
  have hs : ((w2.alloc (.cells #[x, y] t)).alloc (.cells #[z1, z2, z3, z4] t2 (0, 0))).drew.heap.size = w2.heap.size + 1 + 1 := by simp
  have hb : Below w2.heap.size w2 w3 := ((((Below.refl _ _).alloc (Nat.le_refl _) _).alloc (by simp) _).drew).trans (h.mono (by omega))
  have hB : Below (w2.heap.size + 1) w3 ((((w3.setCell ⟨w2.heap.size + 1, 0, none⟩ x').setCell ⟨w2.heap.size + 1, 1, none⟩ y').setCell ⟨w2.heap.size + 1, 2, none⟩ z').setCell ⟨w2.heap.size + 1, 3, none⟩ u') :=
    ((((Below.refl _ _).setCell (p := ⟨w2.heap.size + 1, 0, none⟩) (Nat.le_refl _) _).setCell (p := ⟨w2.heap.size + 1, 1, none⟩) (Nat.le_refl _) _).setCell (p := ⟨w2.heap.size + 1, 2, none⟩) (Nat.le_refl _) _).setCell (p := ⟨w2.heap.size + 1, 3, none⟩) (Nat.le_refl _) _
  exact ⟨four_all (keep_z h) _ _ _ _, (hB.cell (p := ⟨w2.heap.size, 0, none⟩) (Nat.lt_succ_self _)).trans (keep_b h).1, hb.trans (hB.mono (Nat.le_succ _))⟩
theorem cell_four_block {w : World} {b : Nat} {x y z u : Value} {T : TypeId} {fr : Nat × Nat} (h : w.heap[b]? = some (.cells #[x, y, z, u] T fr)) : ∀ j v, [x, y, z, u][j]? = some v → w.cell? ((⟨b, 0, none⟩ : Addr).add j) = some v := by
  intro j v hj
  rw [add_at, Nat.zero_add, cell_of_heap h]
  simpa using hj

set_option maxHeartbeats 2000000 in
set_option maxRecDepth 100000 in
theorem lex_ok (s : ByteArray) (rs : List Nat) (w : World) (hs : s.size ≤ 1000000) (hok : ∀ r ∈ rs, okR r) (hl : s.data.toList = flat rs) :
    Calls Tryd.prog 11 #[.string s] w fun e w' => Below w.heap.size w w' ∧ ∃ ts er, LexT 0 rs ts er ∧
      ((er = (0, 0) ∧ ∃ v, e = .returned (.tuple #[v, .int .i64 0, .int .i64 0]) ∧ w'.ownsRow w.heap.size 34 4 v ts.length (cellsT ts)) ∨
       (er.2 ≠ 0 ∧ e = .returned (.tuple #[.slice none 0 0, .int .i64 er.1, .int .i64 er.2]))) := by
  obtain ⟨i0, hi, hz0, hz1, hz2⟩ := info_parts Tryd.info34
  have hN : rs.length ≤ 1000000 := by
    have h1 := flat_len rs
    have h2 := size_data s
    rw [hl] at h2
    omega
  have HSZ : Hid (s.size = (flat rs).length) := by show s.size = _; rw [← size_data, hl]
  have HL : Hid (s.data.toList = flat rs) := hl
  have HO : Hid (∀ r ∈ rs, okR r) := hok
  clear hl hok
  go_enter Tryd.func11, Tryd.ntmps11
  go_wp2_with fail
  go_step3
  go_wp2_with fail
  refine (decode_ok s rs _ hs HO.out HL.out).mono ?_
  rintro e w1 ⟨v0, rfl, hown0, hb1⟩
  obtain ⟨a, cap, rfl, hra⟩ := runesAt_own hown0
  have HRA : Hid (RunesAt w1 a rs) := hra
  obtain ⟨N, hNe⟩ : ∃ N, N = rs.length := ⟨_, rfl⟩
  rw [← hNe] at hN ⊢
  have HN : Hid (N = rs.length) := hNe
  clear hown0 hra hNe
  go_wp2
  go_step3
  go_wp2
  go_loopw [8, 9] (fun v i wr => ∃ (k : Nat) (ts : List Tk), k ≤ N ∧ i = .int .i64 k ∧ wr.ownsRow w1.heap.size 34 4 v ts.length (cellsT ts) ∧ Hid (Upto rs k ts) ∧ ts.length ≤ k ∧ Below w1.heap.size w1 wr) (fun _ i _ => N - (RowKit.intOf i).toNat)
  case atStart => exact ⟨0, [], Nat.zero_le _, rfl, World.ownsRow_nil _ _ _ _, upto_zero rs, Nat.zero_le _, Below.refl _ _⟩
  case round =>
    obtain ⟨k, ts, hk, rfl, hown, hup, htk, hbel⟩ := hrel
    by_cases hlt : k < N
    · have hkr : k < rs.length := by rw [← HN.out]; exact hlt
      go_wp2_with fail
      have hra1 : RunesAt wr a rs := HRA.out.below hbel
      have hbh := behind_any a cap rs k wr hkr (by rw [← HN.out]; exact hN) hra1
      rw [← HN.out] at hbh
      refine hbh.mono ?_
      clear hbh
      rintro e w2 ⟨rfl, hb2⟩
      have hra2 : RunesAt w2 a rs := hra1.below hb2
      have hown2 := own_below hown hb2
      have hbel2 : Below w1.heap.size w1 w2 := hbel.trans (hb2.mono hbel.size)
      have hsz2 := hbel2.size
      obtain ⟨g, rfl, hg, hc⟩ := hra2 (by omega)
      have c0 := (hc k hkr).1
      have c1 := (hc k hkr).2
      obtain ⟨r, hr⟩ : ∃ r, r = rs[k]'hkr := ⟨_, rfl⟩
      obtain ⟨p, hp⟩ : ∃ p, p = posR rs k := ⟨_, rfl⟩
      obtain ⟨q, hq⟩ : ∃ q, q = toK rs k hkr := ⟨_, rfl⟩
      rw [← hr] at c1
      rw [show (flat (rs.take k)).length = p from hp.symm] at c0
      rw [← hq]
      have HST : Hid (StepK rs k r p q) := ⟨hkr, hr, hp, hq⟩
      have HRA2 : Hid (RunesAt w2 (some ⟨g, 0, none⟩) rs) := hra2
      have hq1 : k < q ∧ q ≤ N := by have := toK_le hkr; rw [hq, HN.out]; exact this
      clear hr hp hq hra2 hc hra1 hb2 hown hkr
      go_wp2_with fail
      refine (passedOver_any r _).mono ?_
      rintro e w' ⟨rfl, rfl⟩
      cases hps : passed r with
      | true =>
        have HPS : Hid (passed r = true) := hps
        clear hps c0 c1
        go_wp2
        go_roundw
        case rel =>
          refine ⟨q, ts, hq1.2, rfl, hown2.alloc _, ?_, by omega, hbel2.alloc hsz2 _⟩
          obtain ⟨h1, h2, h3, h4⟩ := HST.out
          rw [h4]
          exact upto_skip h1 (by rw [← h2]; exact HPS.out) hup.out
        case measure => simp [RowKit.intOf]; omega
      | false =>
        obtain ⟨q2, tx, tk, er, hpq1, hpq2, hx, hpl, htk2, hu0, hue⟩ := lex_step hs HL.out HST.out hps hup.out cap (some ⟨g, 0, none⟩)
        rw [← HN.out] at hpl
        have HPL : Hid (∀ W, RunesAt W (some ⟨g, 0, none⟩) rs → Calls Tryd.prog 21 #[.string s, .slice (some ⟨g, 0, none⟩) N cap, .int .i64 q] W fun e w' => e = .returned (.int .i64 q2) ∧ w' = W) := hpl
        have HTK : Hid (∀ W, Calls Tryd.prog 20 #[.agg #[.int .i64 p, .int .i32 r], .string tx] W fun e w' => e = .returned (.tuple #[.agg #[.int .i64 tk.kind, .int .i64 tk.pos, .string ⟨tk.text.toArray⟩, .int .i64 tk.num], .int .i64 er]) ∧ Below W.heap.size W w') := htk2
        have HU0 : Hid (er = 0 → Upto rs q (ts ++ [tk])) := hu0
        have HUE : Hid (er ≠ 0 → LexT 0 rs ts (p, er)) := hue
        have HRA3 : Hid (RunesAt (w2.alloc (.cells #[.int .i64 p, .int .i32 r] 48)) (some ⟨g, 0, none⟩) rs) := HRA2.out.below ((Below.refl _ _).alloc (Nat.le_refl _) _)
        clear hpl htk2 hu0 hue c0 c1 hps
        have HRA4 : Hid (∀ o, RunesAt ((w2.alloc (.cells #[.int .i64 p, .int .i32 r] 48)).alloc o) (some ⟨g, 0, none⟩) rs) := fun o => HRA3.out.below ((Below.refl _ _).alloc (Nat.le_refl _) _)
        go_wp2_with fail
        go_cut [12, 13] from 24 to 60 (fun v12 v13 wx => ∃ bt, v12 = .pointer (some ⟨bt, 0, none⟩) ∧ v13 = .int .i64 er ∧ w2.heap.size < bt ∧ wx.heap[bt]? = some (.cells #[.int .i64 tk.kind, .int .i64 tk.pos, .string ⟨tk.text.toArray⟩, .int .i64 tk.num] 34 (0, 0)) ∧ wx.cell? ⟨w2.heap.size, 0, none⟩ = some (.int .i64 p) ∧ Below w2.heap.size w2 wx)
        case first =>
          go_region_held3 (fun w' => w'.cell? ⟨w2.heap.size, 0, none⟩ = some (.int .i64 p) ∧ w'.cell? ⟨w2.heap.size, 1, none⟩ = some (.int .i32 r)) (first | go_keep | exact keep_a hb3 | exact keep_b hb3 | exact keep_c (keep_a hb3) _ | exact keep_c (keep_b hb3) _)
            (first | (go_at_call 21; refine (HPL.out _ ?_).mono ?_; (first | exact HRA3.out.drew | exact (HRA4.out _).drew); rintro e w' ⟨rfl, rfl⟩) | (go_at_call 20; refine (HTK.out _).mono ?_; rintro e w3 ⟨rfl, hb3⟩; (first | (have hz := keep_z hb3; obtain ⟨z0, z1, z2, z3⟩ := four_cells hz; have zf := frozen_of_heap hz) | skip)))
          all_goals (try go_wp2_with fail)
          all_goals go_meet
          · have E := end_a hb3 (.cells #[.int .i64 tk.kind, .int .i64 tk.pos, .string ⟨tk.text.toArray⟩, .int .i64 tk.num] 34 (0, 0))
            exact ⟨_, rfl, rfl, E.1, E.2.1, E.2.2.1, E.2.2.2⟩
          all_goals
            have E := end_b hb3 (.int .i64 tk.kind) (.int .i64 tk.pos) (.string ⟨tk.text.toArray⟩) (.int .i64 tk.num)
            exact ⟨_, rfl, rfl, Nat.lt_succ_self _, E.1, E.2.1, E.2.2⟩
        case rest =>
          obtain ⟨bt, rfl, rfl, hbt, hB, hc0, hbw⟩ := hcut
          obtain ⟨z0, z1, z2, z3⟩ := four_cells hB
          have hown3 := own_below hown2 hbw
          have hbel3 : Below w1.heap.size w1 wc := hbel2.trans (hbw.mono hsz2)
          have hsz3 := hbel3.size
          clear hB hown2 hbw HPL HTK HRA3 HRA4 HRA2 hbel2
          by_cases he : er = 0
          · have HUP := HU0.out he
            subst he
            clear HU0 HUE
            go_wp2_with (at_builtin; refine wpList_append_own _ rfl _ _ 23 rfl w1.heap.size 34 i0 _ 4 40 Tryd.underlying23 hi hz0 hz1 hz2 rfl (by decide) _ _ _ rfl (hown3.alloc _) _ 1 1 [.int .i64 tk.kind, .int .i64 tk.pos, .string ⟨tk.text.toArray⟩, .int .i64 tk.num] rfl rfl ?c1 ?c2 ?c3 ?c4 ?c5 ?_)
            case c1 => exact cell_four_block (heap_alloc_new _ _)
            case c2 =>
              intro u hu
              simp at hu
              rcases hu with rfl | rfl | rfl | rfl <;> rfl
            case c3 => unfold maxLen; omega
            case c4 => omega
            case c5 => simp; omega
            intro v' w4 hown4 hgrow _
            have hb4 : Below w1.heap.size w1 w4 := Below.grown (hbel3.alloc hsz3 _) hgrow (by simp; omega) (fun j hj => (hown3.lt j hj).1)
            have HUP2 : Hid (Upto rs q (ts ++ [tk])) := HUP
            have HOW : Hid (w4.ownsRow w1.heap.size 34 4 v' (ts ++ [tk]).length (cellsT (ts ++ [tk]))) := by
              show w4.ownsRow w1.heap.size 34 4 v' (ts ++ [tk]).length (cellsT (ts ++ [tk]))
              rw [cellsT_snoc, List.length_append]
              exact hown4
            clear hgrow hown3 hown4 hi hz0 hz1 hz2 HUP z0 z1 z2 z3 hc0 hup
            go_wp2
            go_roundw
            case rel => exact ⟨q, ts ++ [tk], hq1.2, rfl, HOW.out, HUP2, by simp; omega, hb4⟩
            case measure => simp [RowKit.intOf]; omega
          · have HLE : Hid (LexT 0 rs ts (p, er)) := HUE.out he
            have he2 : ((er : Int) == 0) = false := beq_eq_false_iff_ne.2 (by omega)
            go_wp2_with fail
            go_quiet (fail)
            go_wp2
            rw [Exit.noGoto_ret]
            go_ret3
            refine ⟨hb1.trans (below_drewN (hbel3.mono hb1.size) _), ts, (p, er), HLE.out, Or.inr ⟨he, rfl⟩⟩
    · obtain rfl : k = N := by omega
      have HU : Hid (Upto rs rs.length ts) := by rw [← HN.out]; exact hup
      clear hup
      go_wp2
      rw [Exit.noGoto_ret]
      go_ret3
      refine ⟨hb1.trans (hbel.mono hb1.size), ts, (0, 0), upto_end HU.out, Or.inl ⟨rfl, _, rfl, own_lower hown hb1.size⟩⟩

set_option maxHeartbeats 400000 in
theorem lex_bad (s : ByteArray) (rs : List Nat) (rest : List UInt8) (w : World) (hs : s.size ≤ 1000000) (hok : ∀ r ∈ rs, okR r) (hl : s.data.toList = flat rs ++ rest) (hn : NoRune rest) (hr : rest ≠ []) :
    Calls Tryd.prog 11 #[.string s] w fun e w' => e = .returned (.tuple #[.slice none 0 0, .int .i64 (flat rs).length, .int .i64 2]) ∧ Below w.heap.size w w' := by
  have hd := decode_bad s rs rest w hs hok hl hn hr
  obtain ⟨n, hn2⟩ : ∃ n, n = (flat rs).length := ⟨_, rfl⟩
  rw [← hn2] at hd ⊢
  clear hn hr hok hl hn2
  go_enter Tryd.func11, Tryd.ntmps11
  go_wp2_with fail
  go_step3
  go_wp2_with fail
  refine hd.mono ?_
  clear hd
  rintro e w1 ⟨rfl, hb1⟩
  go_wp2
  rw [Exit.noGoto_ret]
  go_ret3
  exact ⟨rfl, hb1⟩
end Go.Proofs.YtfklgicmhbkoiaaDoor
