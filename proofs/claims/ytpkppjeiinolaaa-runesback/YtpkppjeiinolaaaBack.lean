/-
  carcanetlaw01.RunesBack answers true for every text, and writes nothing that was there.
-/
import Derived.Test.YtpkppjeiinolaaaFacts
import Derived.Deep.DeepCutAuto
namespace Go.Proofs.Ytpkppjeiinolaaa
open Go.RowKit Go.Lib

theorem Try.info21 : (Try.prog.info? 21).map (fun i => (i.zero, i.size, i.bytes)) = some (some (.int .i32 0), 1, 4) := by kernel_rfl

theorem cell_one_at (w : World) (a : Value) (t : TypeId) : ∀ j u, [a][j]? = some u → (w.alloc (.cells #[a] t)).cell? ((⟨w.heap.size, 0, none⟩ : Addr).add j) = some u := by
  intro j u hj
  match j, hj with
  | 0, hj => simp at hj; subst hj; simp [Addr.add]

set_option maxHeartbeats 1000000 in
set_option maxRecDepth 100000 in
theorem back_law (s : ByteArray) (w : World) (hs : s.size ≤ maxLen) : Calls Try.prog 6 #[.string s] w fun e w' => e = .returned (.bool true) ∧ Below w.heap.size w w' := by
  unfold maxLen at hs
  go_enter Try.func6, Try.ntmps6
  go_wp2_with fail
  refine (shown_any _).mono ?_
  rintro e w1 ⟨rfl, hb⟩
  go_upto_region 2 with fail
  go_cut [0] (fun v wx => ∃ s1 : ByteArray, v = .string s1 ∧ s1.size ≤ 3000 ∧ wx = w1)
  case first =>
    go_wp2
    all_goals go_meet
    case rel => exact ⟨_, rfl, cut_size _ _, rfl⟩
    case rel => exact ⟨s, rfl, by omega, rfl⟩
  case rest =>
    obtain ⟨s1, rfl, hs1, rfl⟩ := hcut
    obtain ⟨rs, rest, hl, hok, hn⟩ := runs_of _ s1.data.toList (Nat.le_refl _)
    go_wp2_with fail
    by_cases hr : rest = []
    · subst hr
      rw [List.append_nil] at hl
      refine (decode_ok s1 rs _ (by omega) hok hl).mono ?_
      rintro e w2 ⟨v, rfl, hown, hb2⟩
      have HL : Hid (s1.data.toList = flat rs) := hl
      have HO : Hid (∀ r ∈ rs, okR r) := hok
      clear hl hok hn
      have hrl : rs.length ≤ 3000 := by
        have h1 := flat_len rs
        have h2 := congrArg List.length HL.out
        rw [size_data] at h2
        omega
      obtain ⟨a, cap, rfl, hcells⟩ := own_runes hown
      obtain ⟨i0, hi, hz0, hz1, hz2⟩ := info_parts Try.info21
      clear hown
      go_wp2_with fail
      go_loopw [7, 8, 9] (fun va at' i wr => ∃ k : Nat, k ≤ rs.length ∧ i = .int .i64 k ∧ at' = .int .i64 (flat (rs.take k)).length ∧ wr.ownsRow w2.heap.size 21 1 va k (cellsI (rs.take k)) ∧ Below w2.heap.size w2 wr) (fun _ _ i _ => rs.length - (intOf i).toNat)
      case atStart => exact ⟨0, Nat.zero_le _, rfl, rfl, World.ownsRow_nil _ _ _ _, Below.refl _ _⟩
      case round =>
        obtain ⟨k, hk, rfl, rfl, hown, hb3⟩ := hrel
        by_cases hlt : k < rs.length
        · obtain ⟨g, rfl, hg0, hg1, hcs⟩ := hcells (by omega)
          obtain ⟨c0, c1⟩ := hcs k hlt
          have d0 : wr.cell? ⟨g, k * 2, none⟩ = some (.int .i64 (flat (rs.take k)).length) := (hb3.cell (p := ⟨g, k * 2, none⟩) hg1).trans c0
          have d1 : wr.cell? ⟨g, k * 2 + 1, none⟩ = some (.int .i32 (rs[k] : Nat)) := (hb3.cell (p := ⟨g, k * 2 + 1, none⟩) hg1).trans c1
          clear c0 c1 hcs
          have hok := HO.out rs[k] (List.getElem_mem hlt)
          obtain ⟨r, hr⟩ : ∃ r, r = rs[k] := ⟨_, rfl⟩
          obtain ⟨p, hp⟩ : ∃ p, p = (flat (rs.take k)).length := ⟨_, rfl⟩
          have hwe := wid_enc hok
          have hc2 := cellsI_snoc rs k hlt
          have hp2 : (flat (rs.take (k + 1))).length = p + (enc r).length := by
            rw [take_snocN rs k hlt, flat_append, List.length_append, flat_cons, flat_nil, List.append_nil, hp, hr]
          have hps : p + (enc r).length ≤ 3000 := by
            have h1 := flat_take_drop rs k hlt
            have h2 := congrArg List.length HL.out
            rw [size_data, h1, List.length_append, List.length_append, ← hp, ← hr] at h2
            omega
          rw [← hr] at d1 hwe hc2
          rw [← hp] at d0 ⊢
          have hw1 : 1 ≤ wid r := by rw [hwe]; have := enc_pos r; omega
          have hw0 : wid r ≤ 4 := by rw [hwe]; have := enc_pos r; omega
          have hwz : (wid (r : Int) == 0) = false := beq_eq_false_iff_ne.2 (by omega)
          have HW : Hid (wid r = (enc r).length) := hwe
          have HC : Hid (cellsI (rs.take (k + 1)) = cellsI (rs.take k) ++ [.int .i32 (r : Nat)]) := hc2
          have HP : Hid ((flat (rs.take (k + 1))).length = p + (enc r).length) := hp2
          clear hok hr hp hwe hc2 hp2 hcells
          go_wp2_with (first
            | (go_at_call 16; refine (width_any _ _).mono ?_; rintro e w' ⟨rfl, rfl⟩)
            | (at_builtin; refine wpList_append_own _ rfl _ _ 32 rfl w2.heap.size 21 i0 _ 1 4 Try.underlying32 hi hz0 hz1 hz2 rfl (by decide) _ _ _ rfl (hown.alloc _) _ 1 1 [.int .i32 r] rfl rfl ?c1 ?c2 ?c3 ?c4 ?c5 ?_))
          case c1 => exact cell_one_at _ _ _
          case c2 => intro u hu; simp at hu; subst hu; rfl
          case c3 => unfold maxLen; omega
          case c4 => omega
          case c5 => have := hb3.size; simp; omega
          intro v' w4 hown' hgrow _
          have hb4 : Below w2.heap.size w2 w4 := Below.grown (hb3.alloc hb3.size _) hgrow (by have := hb3.size; simp; omega) (fun j hj => (hown.lt j hj).1)
          clear hgrow hown hi hz0 hz1 hz2 d0 d1
          go_wp2
          go_roundw
          case rel => exact ⟨k + 1, by omega, by go_num, by rw [HP.out, HW.out]; go_num, by rw [HC.out]; exact hown', hb4⟩
          case measure => simp [intOf]; omega
        · obtain rfl : k = rs.length := by omega
          rw [List.take_length] at hown ⊢
          clear hi hz0 hz1 hz2 hcells
          have hsz : ((flat rs).length : Int) = s1.size := by
            have h2 := congrArg List.length HL.out
            rw [size_data] at h2
            omega
          go_wp2_with fail
          refine (encode_own _ rs s1 _ _ hown (by omega) HO.out HL.out).mono ?_
          rintro e w' ⟨rfl, rfl⟩
          clear hown
          go_wp2
          go_ret
          exact ⟨rfl, hb.trans ((hb2.trans (hb3.mono hb2.size)).mono hb.size)⟩
    · refine (decode_bad s1 rs rest _ (by omega) hok hl hn hr).mono ?_
      rintro e w2 ⟨rfl, hb2⟩
      clear hl hok hn hr
      go_wp2
      go_ret
      exact ⟨rfl, hb.trans (hb2.mono hb.size)⟩

end Go.Proofs.Ytpkppjeiinolaaa
