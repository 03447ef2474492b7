/-
  The document's Decode, and whether two rows of runes are the same: what each answers.
-/
import Derived.Test.YtfklgicmhbkoiaaDoorOne
namespace Go.Proofs.YtfklgicmhbkoiaaDoor
open Go.RowKit Go.Lib

theorem Tryd.info66 : (Tryd.prog.info? 66).map (fun i => (i.zero, i.size, i.bytes)) = some (some (.agg #[.int .i64 0, .int .i32 0]), 2, 16) := by kernel_rfl

/-- The first rune of a text is one alone. -/
theorem enc_free {r r' : Nat} {t t' : List UInt8} (ho : okR r) (ho' : okR r') (h : enc r ++ t = enc r' ++ t') : r = r' := by
  have h1 := decode_hit (s := ⟨(enc r ++ t).toArray⟩) (pos := 0) ho (t := t) (by simp)
  have h2 := decode_hit (s := ⟨(enc r ++ t).toArray⟩) (pos := 0) ho' (t := t') (by simp [h])
  rw [h1] at h2
  exact (Prod.mk.inj h2).1
theorem one_hit {r v n : Nat} {t : List UInt8} (ho : okR r) (h : OneOf (enc r ++ t) v n) : v = r ∧ n = (enc r).length := by
  rcases h with ⟨_, _, hn⟩ | ⟨r', t', ho', he, rfl, rfl⟩
  · exact absurd rfl (hn r t ho)
  · have := enc_free ho ho' he
    subst this
    exact ⟨rfl, rfl⟩
theorem one_miss {l : List UInt8} {v n : Nat} (hn : NoRune l) (h : OneOf l v n) : v = 0 ∧ n = 0 := by
  rcases h with ⟨h1, h2, _⟩ | ⟨r', t', ho', he, _, _⟩
  · exact ⟨h1, h2⟩
  · exact absurd he (hn r' t' ho')

/-- What a step of the document's Decode leaves. -/
theorem refdec_step {s : ByteArray} {rs : List Nat} {rest : List UInt8} (hok : ∀ r ∈ rs, okR r) (hl : s.data.toList = flat rs ++ rest) {k : Nat} (hk : k < rs.length) :
    ∃ p r n : Nat, (flat (rs.take k)).length = p ∧ p + n ≤ s.size ∧ 1 ≤ n ∧ n ≤ 4 ∧ r ≤ 1114111 ∧ (∀ v m, OneOf (s.extract p s.size).data.toList v m → v = r ∧ m = n) ∧
      (flat (rs.take (k + 1))).length = p + n ∧ cellsR 0 (rs.take (k + 1)) = cellsR 0 (rs.take k) ++ [.int .i64 p, .int .i32 r] := by
  have ho := hok rs[k] (List.getElem_mem hk)
  have hd : s.data.toList.drop (flat (rs.take k)).length = enc rs[k] ++ (flat (rs.drop (k + 1)) ++ rest) := by
    rw [hl, flat_take_drop rs k hk, List.append_assoc, List.drop_left, List.append_assoc]
  have hsz := congrArg List.length hd
  rw [List.length_drop, size_data, List.length_append] at hsz
  have hp := enc_pos rs[k]
  refine ⟨_, rs[k], (enc rs[k]).length, rfl, by omega, hp.1, hp.2, ?_, ?_, ?_, ?_⟩
  · unfold okR at ho; omega
  · intro v m h
    rw [extract_data, hd] at h
    exact one_hit ho h
  · rw [take_snocN rs k hk, flat_append, List.length_append, flat_cons, flat_nil, List.append_nil]
  · rw [take_snocN rs k hk, cellsR_snoc, Nat.zero_add]

theorem ret_pair {v n v' n' : Nat} (h : v = v' ∧ n = n') : Ending.returned (.tuple #[.int .i64 v, .int .i64 n]) = .returned (.tuple #[.int .i64 v', .int .i64 n']) := by rw [h.1, h.2]

set_option maxHeartbeats 1000000 in
theorem refDecode_calls (s : ByteArray) (rs : List Nat) (rest : List UInt8) (w : World) (hs : s.size ≤ 1000000) (hok : ∀ r ∈ rs, okR r) (hl : s.data.toList = flat rs ++ rest) (hn : NoRune rest) :
    Calls Tryd.prog 16 #[.string s] w fun e w' => Below w.heap.size w w' ∧
      ((rest = [] ∧ ∃ v, e = .returned (.tuple #[v, .int .i64 0, .int .i64 0]) ∧ w'.ownsRow w.heap.size 66 2 v rs.length (cellsR 0 rs)) ∨
       (rest ≠ [] ∧ e = .returned (.tuple #[.slice none 0 0, .int .i64 (flat rs).length, .int .i64 2]))) := by
  obtain ⟨i0, hi, hz0, hz1, hz2⟩ := info_parts Tryd.info66
  have HL : Hid (s.data.toList = flat rs ++ rest) := hl
  have HN : Hid (NoRune rest) := hn
  have HO : Hid (∀ r ∈ rs, okR r) := hok
  clear hl hn hok
  go_enter Tryd.func16, Tryd.ntmps16
  go_wp2
  go_loopw [5, 6] (fun v i wr => ∃ k : Nat, k ≤ rs.length ∧ i = .int .i64 (flat (rs.take k)).length ∧ wr.ownsRow w.heap.size 66 2 v k (cellsR 0 (rs.take k)) ∧ Below w.heap.size w wr) (fun _ i _ => s.size - (intOf i).toNat)
  case atStart => exact ⟨0, Nat.zero_le _, rfl, World.ownsRow_nil _ _ _ _, Below.refl _ _⟩
  case round =>
    obtain ⟨k, hk, rfl, hown, hbel⟩ := hrel
    have hkb : k ≤ 1000000 := by
      have h1 := flat_len rs
      have h2 := (step_end HL.out HN.out).1
      omega
    by_cases hlt : k < rs.length
    · obtain ⟨p, r, n, hp, hpn, hn1, hn4, hr, hone, hp2, hc2⟩ := refdec_step HO.out HL.out hlt
      rw [hp]
      have HC : Hid (cellsR 0 (rs.take (k + 1)) = cellsR 0 (rs.take k) ++ [.int .i64 p, .int .i32 r]) := hc2
      have HP : Hid ((flat (rs.take (k + 1))).length = p + n) := hp2
      have HONE : Hid (∀ v m, OneOf (s.extract p s.size).data.toList v m → v = r ∧ m = n) := hone
      clear hc2 hp2 hp hone
      have hex : (s.extract p s.size).size ≤ 1000000 := by rw [ByteArray.size_extract]; omega
      have hnz : ((n : Int) == 0) = false := beq_eq_false_iff_ne.2 (by omega)
      have hps : p < s.size := by omega
      go_wp2_with fail
      refine (one_any _ _ hex).mono ?_
      rintro e w1 ⟨⟨v, m, rfl, ho⟩, rfl⟩
      obtain ⟨rfl, rfl⟩ := HONE.out v m ho
      clear ho
      go_wp2_with (at_builtin; refine wpList_append_own _ rfl _ _ 37 rfl w.heap.size 66 i0 _ 2 16 Tryd.underlying37 hi hz0 hz1 hz2 rfl (by decide) _ _ _ rfl (hown.alloc _) _ 1 1 [.int .i64 p, .int .i32 v] rfl rfl ?c1 ?c2 ?c3 ?c4 ?c5 ?_)
      case c1 => exact cell_two_new _ _ _ _
      case c2 => intro u hu; simp at hu; rcases hu with rfl | rfl <;> rfl
      case c3 => unfold maxLen; omega
      case c4 => omega
      case c5 => have := hbel.size; simp; omega
      intro v' w4 hown' hgrow _
      have hb4 : Below w.heap.size w w4 := Below.grown (hbel.alloc hbel.size _) hgrow (by have := hbel.size; simp; omega) (fun j hj => (hown.lt j hj).1)
      clear hgrow hown hi hz0 hz1 hz2
      go_wp2
      go_roundw
      case rel => exact ⟨k + 1, by omega, by rw [HP.out]; go_num, by rw [HC.out]; exact hown', hb4⟩
      case measure => simp [intOf]; omega
    · obtain rfl : k = rs.length := by omega
      rw [List.take_length] at hown ⊢
      obtain ⟨hsz, hre⟩ := step_end HL.out HN.out
      have hdr : (s.extract (flat rs).length s.size).data.toList = rest := by rw [extract_data, HL.out, List.drop_left]
      obtain ⟨p, hp⟩ : ∃ p, (flat rs).length = p := ⟨_, rfl⟩
      rw [hp] at hsz hre hdr ⊢
      have HP : Hid ((flat rs).length = p) := hp
      have HDR : Hid ((s.extract p s.size).data.toList = rest) := hdr
      clear hp hi hz0 hz1 hz2 hdr
      by_cases he : rest = []
      · have HE : Hid (rest = []) := he
        have hps : ¬ p < s.size := by rw [hsz, he]; simp
        clear he hsz hre
        go_wp2
        go_ret3
        exact ⟨hbel, Or.inl ⟨HE.out, _, rfl, hown⟩⟩
      · have HE : Hid (¬ rest = []) := he
        obtain ⟨hps, _, _⟩ := hre he
        have hex : (s.extract p s.size).size ≤ 1000000 := by rw [ByteArray.size_extract]; omega
        clear he hsz hre
        go_wp2_with fail
        refine (one_any _ _ hex).mono ?_
        rintro e w1 ⟨⟨v, m, rfl, ho⟩, rfl⟩
        rw [HDR.out] at ho
        obtain ⟨rfl, rfl⟩ := one_miss HN.out ho
        clear ho
        go_wp2
        go_ret3
        exact ⟨hbel, Or.inr ⟨HE.out, by rw [HP.out]; rfl⟩⟩

theorem refDecode_ok (s : ByteArray) (rs : List Nat) (w : World) (hs : s.size ≤ 1000000) (hok : ∀ r ∈ rs, okR r) (hl : s.data.toList = flat rs) :
    Calls Tryd.prog 16 #[.string s] w fun e w' => ∃ v, e = .returned (.tuple #[v, .int .i64 0, .int .i64 0]) ∧ w'.ownsRow w.heap.size 66 2 v rs.length (cellsR 0 rs) ∧ Below w.heap.size w w' := by
  refine (refDecode_calls s rs [] w hs hok (by rw [hl, List.append_nil]) noRune_nil).mono ?_
  rintro e w' ⟨hb, ⟨_, v, he, ho⟩ | ⟨hx, _⟩⟩
  · exact ⟨v, he, ho, hb⟩
  · exact absurd rfl hx

theorem refDecode_bad (s : ByteArray) (rs : List Nat) (rest : List UInt8) (w : World) (hs : s.size ≤ 1000000) (hok : ∀ r ∈ rs, okR r) (hl : s.data.toList = flat rs ++ rest) (hn : NoRune rest) (hr : rest ≠ []) :
    Calls Tryd.prog 16 #[.string s] w fun e w' => e = .returned (.tuple #[.slice none 0 0, .int .i64 (flat rs).length, .int .i64 2]) ∧ Below w.heap.size w w' := by
  refine (refDecode_calls s rs rest w hs hok hl hn).mono ?_
  rintro e w' ⟨hb, ⟨hx, _⟩ | ⟨_, he⟩⟩
  · exact absurd hx hr
  · exact ⟨he, hb⟩

end Go.Proofs.YtfklgicmhbkoiaaDoor
