/-
  carcanetlaw01.RunesForth answers true for every row of numbers, and writes nothing that was there.
-/
import Derived.Test.YtpkppjeiinolaaaEncLaw
import Derived.Deep.QuietTactic
import Derived.BigQuiet
namespace Go.Proofs.Ytpkppjeiinolaaa
open Go.RowKit Go.Lib

def okK (ns : List Int) (k : Nat) : Bool := (ns.take k).all okI
theorem okK_step {ns : List Int} {k : Nat} (h : k < ns.length) : okK ns (k + 1) = (okK ns k && okI (ns.getD k 0)) := by
  unfold okK
  rw [List.take_succ_eq_append_getElem h, List.all_append]
  simp [List.getD, h]
theorem okK_yes {ns : List Int} (h : okK ns ns.length = true) : ∃ rs s, ns = intsN rs ∧ (∀ r ∈ rs, okR r) ∧ encAns ns = .tuple #[.string s, .int .i64 0] ∧ s.data.toList = flat rs := by
  unfold okK at h
  rw [List.take_length, List.all_eq_true] at h
  have e : ns = intsN (ns.map Int.toNat) := by
    unfold intsN
    rw [List.map_map]
    have : ∀ x ∈ ns, (Int.ofNat ∘ Int.toNat) x = id x := fun x hx => (okI_ok (h x hx)).2.symm
    rw [List.map_congr_left this, List.map_id]
  have ho : ∀ r ∈ ns.map Int.toNat, okR r := by
    intro r hr
    obtain ⟨x, hx, rfl⟩ := List.mem_map.1 hr
    exact (okI_ok (h x hx)).1
  refine ⟨_, runesBytes ns, e, ho, ?_, ?_⟩
  · unfold encAns
    rw [if_pos (List.all_eq_true.2 h)]
  · have := runesBytes_flat ho
    rwa [← e] at this
theorem okK_no {ns : List Int} (h : okK ns ns.length = false) : encAns ns = .tuple #[.string ⟨#[]⟩, .int .i64 2] := by
  unfold okK at h
  rw [List.take_length] at h
  unfold encAns
  rw [if_neg (by rw [h]; simp)]

theorem flat_four (rs : List Nat) : (flat rs).length ≤ 4 * rs.length := by
  induction rs with
  | nil => simp [flat]
  | cons r rs ih => rw [flat_cons]; have := enc_pos r; simp; omega

set_option maxHeartbeats 1000000 in
set_option maxRecDepth 100000 in
theorem forth_law (a : Option Addr) (len cap : Nat) (ns0 : List Int) (w : World) (hl : len ≤ cap) (h : RowI w a len ns0) : Calls Try.prog 7 #[.slice a len cap] w fun e w' => e = .returned (.bool true) ∧ Below w.heap.size w w' := by
  have HR : Hid (RowI w a len ns0) := h
  clear h
  go_enter Try.func7, Try.ntmps7
  go_wp2_with fail
  refine (shown_any _).mono ?_
  rintro e w1 ⟨rfl, hb⟩
  go_upto_region 2 with fail
  go_cut [0] (fun v wx => ∃ n : Nat, v = .slice a n cap ∧ n ≤ 1000 ∧ n ≤ len ∧ wx = w1)
  case first =>
    go_wp2
    all_goals go_meet
    case rel => exact ⟨1000, rfl, by omega, by omega, rfl⟩
    case rel => exact ⟨len, rfl, by omega, by omega, rfl⟩
  case rest =>
    obtain ⟨n, rfl, hn, hnl, rfl⟩ := hcut
    have hrow := (HR.out.below hb).cut hnl
    obtain ⟨ns, hns⟩ : ∃ ns, ns = ns0.take n := ⟨_, rfl⟩
    rw [← hns] at hrow
    have HQ : Hid (RowI wc a n ns) := hrow
    have HN : Hid (ns.length = n) := hrow.1
    clear hrow HR hns
    go_wp2_with fail
    go_loop [4, 5] (fun m i => ∃ k : Nat, k ≤ n ∧ i = .int .i64 k ∧ m = .bool (okK ns k)) (fun _ i => n - (intOf i).toNat)
    case atStart => exact ⟨0, Nat.zero_le _, rfl, rfl⟩
    case round =>
      obtain ⟨k, hk, rfl, rfl⟩ := hrel
      by_cases hlt : k < n
      · have hst := okK_step (ns := ns) (k := k) (by rw [HN.out]; exact hlt)
        have HS : Hid (okK ns (k + 1) = (okK ns k && okI (ns.getD k 0))) := hst
        clear hst
        cases hm : okK ns k with
        | false =>
          go_wp2
          go_round
          case rel => exact ⟨k + 1, by omega, by go_num, by rw [HS.out, hm]; rfl⟩
          case measure => simp [intOf]; omega
        | true =>
          obtain ⟨b, off, rfl, hbl, hcs⟩ := HQ.out.2.2 (by omega)
          have hc := hcs k hlt
          obtain ⟨r, hr⟩ : ∃ r, r = ns.getD k 0 := ⟨_, rfl⟩
          rw [← hr] at hc
          have HX : Hid (r = ns.getD k 0) := hr
          clear hr hcs
          have hw := wid_facts r
          cases ho : okI r with
          | true =>
            have hz : decide (0 < wid r) = true := by simp; have := ok_yes ho; omega
            clear hw
            go_wp2_with (go_at_call 16; refine (width_any _ _).mono ?_; rintro e w' ⟨rfl, rfl⟩)
            go_round
            case rel => exact ⟨k + 1, by omega, by go_num, by rw [HS.out, hm, ← HX.out, ho]; rfl⟩
            case measure => simp [intOf]; omega
          | false =>
            have hz : decide (0 < wid r) = false := by simp; have := ok_not ho; omega
            clear hw
            go_wp2_with (go_at_call 16; refine (width_any _ _).mono ?_; rintro e w' ⟨rfl, rfl⟩)
            go_round
            case rel => exact ⟨k + 1, by omega, by go_num, by rw [HS.out, hm, ← HX.out, ho]; rfl⟩
            case measure => simp [intOf]; omega
      · obtain rfl : k = n := by omega
        go_wp2_with fail
        refine (encode_arg _ _ _ _ _ (by omega) HQ.out).mono ?_
        rintro e w2 ⟨rfl, rfl⟩
        cases hm : okK ns k with
        | false =>
          rw [okK_no (by rw [HN.out]; exact hm)]
          go_wp2
          go_ret
          exact ⟨rfl, hb⟩
        | true =>
          obtain ⟨rs, s, hrs, hok, he, hfl⟩ := okK_yes (ns := ns) (by rw [HN.out]; exact hm)
          rw [he]
          have hlr : rs.length = k := by have := HN.out; rw [hrs, intsN_length] at this; exact this
          have HF : Hid (s.data.toList = flat rs) := hfl
          have HO : Hid (∀ r ∈ rs, okR r) := hok
          have HRS : Hid (ns = intsN rs) := hrs
          have HLR : Hid (rs.length = k) := hlr
          clear he hrs hok hfl hlr
          have hsz : s.size ≤ 1000000 := by
            have h1 := congrArg List.length HF.out
            rw [size_data] at h1
            have h2 := flat_four rs
            have := HLR.out
            omega
          go_wp2_with fail
          refine (decode_ok s rs _ hsz HO.out HF.out).mono ?_
          rintro e w3 ⟨v, rfl, hown, hb3⟩
          obtain ⟨a1, cap1, rfl, hcells⟩ := own_runes hown
          have HCE := hcells
          have HCH : Hid (0 < rs.length → _) := hcells
          clear hcells HCE
          rw [HLR.out]
          have hrow3 := HQ.out.below hb3
          have HQ3 : Hid (RowI w3 a k ns) := hrow3
          clear hrow3 hown HQ hm
          go_wp2_with fail
          go_loopw [11] (fun i wr => ∃ j : Nat, j ≤ k ∧ i = .int .i64 j ∧ Below w3.heap.size w3 wr) (fun i _ => k - (intOf i).toNat)
          case atStart => exact ⟨0, Nat.zero_le _, rfl, Below.refl _ _⟩
          case round =>
            obtain ⟨j, hj, rfl, hb4⟩ := hrel
            by_cases hlt : j < k
            · obtain ⟨g, rfl, hg0, hg1, hcs⟩ := HCH.out (by rw [HLR.out]; omega)
              obtain ⟨_, c1⟩ := hcs j (by rw [HLR.out]; exact hlt)
              obtain ⟨b, off, rfl, hbl, hcs2⟩ := HQ3.out.2.2 (by omega)
              have c2 := hcs2 j hlt
              have hjr : j < rs.length := by rw [HLR.out]; exact hlt
              have hget : ns.getD j 0 = (rs[j] : Nat) := by rw [HRS.out]; simp [intsN, List.getD, hjr]
              rw [hget] at c2
              obtain ⟨r, hr⟩ : ∃ r, r = rs[j] := ⟨_, rfl⟩
              rw [← hr] at c1 c2
              have d1 := (hb4.cell (p := ⟨g, j * 2 + 1, none⟩) hg1).trans c1
              have d2 := (hb4.cell (p := ⟨b, off + j, none⟩) hbl).trans c2
              have hj1 : (j : Int) < (k : Int) := by omega
              clear hcs hcs2 c1 c2 hr hget
              go_wp2
              go_quiet (fail)
              go_wp2
              go_roundw
              case rel => exact ⟨j + 1, by omega, by go_num, below_drewN hb4 _⟩
              case measure => simp [intOf]; omega
            · go_wp2
              go_ret
              exact ⟨rfl, hb.trans ((hb3.trans (hb4.mono hb3.size)).mono hb.size)⟩

end Go.Proofs.Ytpkppjeiinolaaa
