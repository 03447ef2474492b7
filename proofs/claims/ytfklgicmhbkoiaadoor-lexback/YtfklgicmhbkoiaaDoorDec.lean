/-
  runes.Decode: what it answers, for every text: the runes of which the text is written, or the place behind the last one.
-/
import Derived.Test.YtfklgicmhbkoiaaDoorPureB
import Derived.Test.YtfklgicmhbkoiaaDoorRuns
import Derived.Lib.OthersKept
import Derived.WalkSmall
namespace Go.Proofs.YtfklgicmhbkoiaaDoor
open Go.RowKit Go.Lib

theorem Tryd.info48 : (Tryd.prog.info? 48).map (fun i => (i.zero, i.size, i.bytes)) = some (some (.agg #[.int .i64 0, .int .i32 0]), 2, 16) := by kernel_rfl

theorem extract_small (s : ByteArray) (p : Nat) (hs : s.size ≤ 1000000) : (s.extract p s.size).size ≤ maxLen := by
  have h := congrArg List.length (extract_data s p)
  rw [size_data, List.length_drop, size_data] at h
  unfold maxLen; omega
theorem own_lower {w : World} {base b : Nat} {e : TypeId} {size : Nat} {v : Value} {n : Nat} {xs : List Value} (h : w.ownsRow base e size v n xs) (hb : b ≤ base) : w.ownsRow b e size v n xs := by
  refine ⟨h.1, ?_⟩
  rcases h.2 with h2 | ⟨g, cap, cur, hv, hg, r⟩
  · exact Or.inl h2
  · exact Or.inr ⟨g, cap, cur, hv, by omega, r⟩

/-- What a round that reads a rune leaves of the loop's relation. -/
theorem rel_next {w wr w1 : World} {s : ByteArray} {p n k : Nat} {v : Value} {xs : List Value} {o : Obj} (hit : wr.heap[w.heap.size]? = some (.stringIter s p)) (hown : wr.ownsRow (w.heap.size + 1) 48 2 v k xs)
    (hbel : Below w.heap.size w wr) (hg : ((wr.iterAt w.heap.size s (p + n)).alloc o).grownBy w1 v.ownBlock) :
    w1.heap[w.heap.size]? = some (.stringIter s (p + n)) ∧ Below w.heap.size w w1 := by
  have hsz : w.heap.size < wr.heap.size := (Array.getElem?_eq_some_iff.1 hit).1
  have hsz2 : w.heap.size < ((wr.iterAt w.heap.size s (p + n)).alloc o).heap.size := by
    have := iterAt_size wr w.heap.size s (p + n)
    simp; omega
  have hne : some w.heap.size ≠ v.ownBlock := by
    intro e
    have := hown.lt _ e.symm
    omega
  refine ⟨?_, ?_⟩
  · rw [hg.block _ hsz2 hne, Below.heap_alloc _ _ _ (by rw [iterAt_size]; exact hsz)]
    exact iterAt_heap wr w.heap.size s p (p + n) hit
  · refine Below.grown ((below_iterAt hbel (Nat.le_refl _) s (p + n)).alloc (by rw [iterAt_size]; omega) o) hg (by omega) ?_
    intro j hj
    have := hown.lt j hj
    omega

set_option maxHeartbeats 400000 in
theorem decode_calls (s : ByteArray) (rs : List Nat) (rest : List UInt8) (w : World) (hs : s.size ≤ 1000000) (hok : ∀ r ∈ rs, okR r) (hl : s.data.toList = flat rs ++ rest) (hn : NoRune rest) :
    Calls Tryd.prog 17 #[.string s] w fun e w' => Below w.heap.size w w' ∧
      ((rest = [] ∧ ∃ v, e = .returned (.tuple #[v, .int .i64 0, .int .i64 0]) ∧ w'.ownsRow w.heap.size 48 2 v rs.length (cellsR 0 rs)) ∨
       (rest ≠ [] ∧ e = .returned (.tuple #[.slice none 0 0, .int .i64 (flat rs).length, .int .i64 2]))) := by
  obtain ⟨i0, hi, hz0, hz1, hz2⟩ := info_parts Tryd.info48
  have HL : Hid (s.data.toList = flat rs ++ rest) := hl
  have HN : Hid (NoRune rest) := hn
  have HO : Hid (∀ r ∈ rs, okR r) := hok
  clear hl hn hok
  go_enter Tryd.func17, Tryd.ntmps17
  go_wp2
  go_loopw [5] (fun v wr => ∃ k : Nat, k ≤ rs.length ∧ wr.heap[w.heap.size]? = some (.stringIter s (flat (rs.take k)).length) ∧ wr.ownsRow (w.heap.size + 1) 48 2 v k (cellsR 0 (rs.take k)) ∧ Below w.heap.size w wr) (fun _ wr => s.size - wr.iterPos w.heap.size)
  case atStart => exact ⟨0, Nat.zero_le _, World.iter_heap w s 0, World.ownsRow_nil _ _ _ _, (Below.refl _ _).alloc (Nat.le_refl _) _⟩
  case round =>
    obtain ⟨k, hk, hit, hown, hbel⟩ := hrel
    have hkb : k ≤ 1000000 := by
      have h1 := flat_len rs
      have h2 := (step_end HL.out HN.out).1
      omega
    by_cases hlt : k < rs.length
    · obtain ⟨p, r, n, hp, hpn, hn1, hn4, hr, hdec, hff, hp2, hc2⟩ := step_hit HO.out HL.out hlt
      rw [hp] at hit
      have hip := iterPos_of hit
      have hnx : ∀ ty, (Instr.next (.pointer (some ⟨w.heap.size, 0, none⟩)) true ty).run Tryd.prog wr = .ok (.tuple #[.bool true, .int .i64 p, .int .i32 r]) (wr.iterAt w.heap.size s (p + n)) := fun ty => by
        have := run_next_any_at (P := Tryd.prog) wr w.heap.size s p ty hit (by omega)
        rw [hdec] at this
        exact this
      have hown1 := ownsRow_iterAt hown (k := w.heap.size) (by omega) s (p + n)
      have HC : Hid (cellsR 0 (rs.take (k + 1)) = cellsR 0 (rs.take k) ++ [.int .i64 p, .int .i32 r]) := hc2
      have HP : Hid ((flat (rs.take (k + 1))).length = p + n) := hp2
      have HF : Hid (r = 65533 → ffB (s.extract p s.size) = true) := hff
      have HIT : Hid (wr.heap[w.heap.size]? = some (.stringIter s p)) := hit
      have HIP : Hid (wr.iterPos w.heap.size = p) := hip
      clear hc2 hp2 hff hp hdec hit hip
      by_cases hr2 : ((r : Int) == 65533) = true
      · obtain rfl : r = 65533 := by simp at hr2; omega
        have hff2 := HF.out rfl
        have HC2 : Hid (cellsR 0 (rs.take (k + 1)) = cellsR 0 (rs.take k) ++ [.int .i64 p, .int .i32 65533]) := HC.out
        have hnx2 : ∀ ty, (Instr.next (.pointer (some ⟨w.heap.size, 0, none⟩)) true ty).run Tryd.prog wr = .ok (.tuple #[.bool true, .int .i64 p, .int .i32 65533]) (wr.iterAt w.heap.size s (p + n)) := hnx
        clear hnx hr2 HC hr HF
        have hex := extract_small s p hs
        go_wp2_with (first
          | (go_at_call 27; refine (hasPre_any _ _ hex).mono ?_; rintro e w' ⟨rfl, rfl⟩)
          | (at_builtin; refine wpList_append_own _ rfl _ _ 43 rfl (w.heap.size + 1) 48 i0 _ 2 16 Tryd.underlying43 hi hz0 hz1 hz2 rfl (by decide) _ _ _ rfl (hown1.alloc _) _ 1 1 [.int .i64 p, .int .i32 65533] rfl rfl ?c1 ?c2 ?c3 ?c4 ?c5 ?_))
        case c1 => exact cell_two_new _ _ _ _
        case c2 => intro u hu; simp at hu; rcases hu with rfl | rfl <;> rfl
        case c3 => unfold maxLen; omega
        case c4 => omega
        case c5 => have := (Array.getElem?_eq_some_iff.1 HIT.out).1; simp [iterAt_size]; omega
        intro v' w1 hown' hgrow _
        have R := rel_next HIT.out hown hbel hgrow
        clear hgrow hown hown1 hnx2 hi hz0 hz1 hz2
        go_wp2
        go_roundw
        case rel => exact ⟨k + 1, by omega, by rw [HP.out]; exact R.1, by rw [HC2.out]; exact hown', R.2⟩
        case measure => rw [iterPos_of R.1, HIP.out]; omega
      · have hr3 : ((r : Int) == 65533) = false := by simpa using hr2
        clear hr2
        go_wp2_with (first
          | (at_builtin; refine wpList_append_own _ rfl _ _ 43 rfl (w.heap.size + 1) 48 i0 _ 2 16 Tryd.underlying43 hi hz0 hz1 hz2 rfl (by decide) _ _ _ rfl (hown1.alloc _) _ 1 1 [.int .i64 p, .int .i32 r] rfl rfl ?d1 ?d2 ?d3 ?d4 ?d5 ?_))
        case d1 => exact cell_two_new _ _ _ _
        case d2 => intro u hu; simp at hu; rcases hu with rfl | rfl <;> rfl
        case d3 => unfold maxLen; omega
        case d4 => omega
        case d5 => have := (Array.getElem?_eq_some_iff.1 HIT.out).1; simp [iterAt_size]; omega
        intro v' w1 hown' hgrow _
        have R := rel_next HIT.out hown hbel hgrow
        clear hgrow hown hown1 hnx hi hz0 hz1 hz2
        go_wp2
        go_roundw
        case rel => exact ⟨k + 1, by omega, by rw [HP.out]; exact R.1, by rw [HC.out]; exact hown', R.2⟩
        case measure => rw [iterPos_of R.1, HIP.out]; omega
    · obtain rfl : k = rs.length := by omega
      rw [List.take_length] at hit hown
      obtain ⟨hsz, hre⟩ := step_end HL.out HN.out
      obtain ⟨p, hp⟩ : ∃ p, (flat rs).length = p := ⟨_, rfl⟩
      rw [hp] at hit hsz hre
      have HP : Hid ((flat rs).length = p) := hp
      clear hp hi hz0 hz1 hz2
      by_cases he : rest = []
      · have HE : Hid (rest = []) := he
        have hps : ¬ p < s.size := by rw [hsz, he]; simp
        have hnx : ∀ ty, (Instr.next (.pointer (some ⟨w.heap.size, 0, none⟩)) true ty).run Tryd.prog wr = .ok (.tuple #[.bool false]) wr := fun ty => run_next_end_at (P := Tryd.prog) wr w.heap.size s p ty hit hps
        clear he hsz hre hit
        go_wp2
        go_ret3
        exact ⟨hbel, Or.inl ⟨HE.out, _, rfl, own_lower hown (by omega)⟩⟩
      · have HE : Hid (¬ rest = []) := he
        obtain ⟨hps, hdec, hff⟩ := hre he
        have hnx : ∀ ty, (Instr.next (.pointer (some ⟨w.heap.size, 0, none⟩)) true ty).run Tryd.prog wr = .ok (.tuple #[.bool true, .int .i64 p, .int .i32 65533]) (wr.iterAt w.heap.size s (p + 1)) := fun ty => by
          have := run_next_any_at (P := Tryd.prog) wr w.heap.size s p ty hit hps
          rw [hdec] at this
          exact this
        have hex := extract_small s p hs
        clear he hsz hre hit hdec
        go_wp2_with (go_at_call 27; refine (hasPre_any _ _ hex).mono ?_; rintro e w' ⟨rfl, rfl⟩)
        go_ret3
        exact ⟨below_iterAt hbel (Nat.le_refl _) s _, Or.inr ⟨HE.out, by rw [HP.out]; rfl⟩⟩

theorem decode_ok (s : ByteArray) (rs : List Nat) (w : World) (hs : s.size ≤ 1000000) (hok : ∀ r ∈ rs, okR r) (hl : s.data.toList = flat rs) :
    Calls Tryd.prog 17 #[.string s] w fun e w' => ∃ v, e = .returned (.tuple #[v, .int .i64 0, .int .i64 0]) ∧ w'.ownsRow w.heap.size 48 2 v rs.length (cellsR 0 rs) ∧ Below w.heap.size w w' := by
  refine (decode_calls s rs [] w hs hok (by rw [hl, List.append_nil]) noRune_nil).mono ?_
  rintro e w' ⟨hb, ⟨_, v, he, ho⟩ | ⟨hx, _⟩⟩
  · exact ⟨v, he, ho, hb⟩
  · exact absurd rfl hx

theorem decode_bad (s : ByteArray) (rs : List Nat) (rest : List UInt8) (w : World) (hs : s.size ≤ 1000000) (hok : ∀ r ∈ rs, okR r) (hl : s.data.toList = flat rs ++ rest) (hn : NoRune rest) (hr : rest ≠ []) :
    Calls Tryd.prog 17 #[.string s] w fun e w' => e = .returned (.tuple #[.slice none 0 0, .int .i64 (flat rs).length, .int .i64 2]) ∧ Below w.heap.size w w' := by
  refine (decode_calls s rs rest w hs hok hl hn).mono ?_
  rintro e w' ⟨hb, ⟨hx, _⟩ | ⟨_, he⟩⟩
  · exact absurd hx hr
  · exact ⟨he, hb⟩

end Go.Proofs.YtfklgicmhbkoiaaDoor
