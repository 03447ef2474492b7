/-
  carcanetlaw02.LexNumbers answers true for every two numbers, and writes nothing that was there.
-/
import Derived.Test.YtfklgicmhbkoiaaDoorBlanks
import Derived.Laws.BytesArg
namespace Go.Proofs.YtfklgicmhbkoiaaDoor
open Go.RowKit Go.Lib

theorem cvOne (w : World) (x : Int) : (convert 41 9 (.slice (some ⟨w.heap.size, 0, none⟩) 1 1)).run Tryd.prog (w.alloc (.cells #[.int .u8 x] 5)) = .ok (.string (strOfNums [x])) (w.alloc (.cells #[.int .u8 x] 5)) :=
  run_convert_bytes_arg _ 41 5 Tryd.underlying41 Tryd.underlying5 w.heap.size 0 1 1 [x] rfl (fun i hi => by match i, hi with | 0, _ => simp) 9 Tryd.underlying9
theorem and_mid (n : Int) : bits .and .i64 n 4294967295 = n % 4294967296 := by
  have hm : (BitVec.ofInt 64 4294967295).toNat = 2 ^ 32 - 1 := by decide
  have e : (BitVec.ofInt 64 n &&& BitVec.ofInt 64 4294967295).toNat = (n % ((2 ^ 64 : Nat) : Int)).toNat % 2 ^ 32 := by
    rw [BitVec.toNat_and, BitVec.toNat_ofInt, hm, Nat.and_two_pow_sub_one_eq_mod]
  show IntKind.i64.wrap ((BitVec.ofInt 64 n &&& BitVec.ofInt 64 4294967295).toNat : Nat) = n % 4294967296
  rw [e, IntKind.wrap_i64]
  omega
theorem mid_of (n : Int) : ∃ q : Nat, (bits .and .i64 n 4294967295).tmod 1000000000 = (q : Int) ∧ q < 1000000000 := by
  rw [and_mid]
  have h0 : 0 ≤ n % 4294967296 := by omega
  obtain ⟨a, ha⟩ := Int.eq_ofNat_of_zero_le h0
  rw [ha]
  refine ⟨a % 1000000000, ?_, Nat.mod_lt a (by omega)⟩
  rw [Int.tmod_eq_emod_of_nonneg (by omega)]
  rfl

def strLen : Value → Nat
  | .string s => s.size
  | _ => 0
/-- A text of digits, and its number. -/
def Numeral (S : ByteArray) (L m : Nat) : Prop := S.size = L ∧ (∀ b ∈ S.data.toList, isDig b) ∧ digits S.data.toList = m
theorem foldl_dig (l : List UInt8) : ∀ acc, l.foldl (fun v b => v * 10 + (b.toNat - 48)) acc = acc * 10 ^ l.length + l.foldl (fun v b => v * 10 + (b.toNat - 48)) 0 := by
  induction l with
  | nil => intro acc; simp
  | cons b l ih =>
    intro acc
    rw [List.foldl_cons, List.foldl_cons, ih, ih (0 * 10 + (b.toNat - 48)), List.length_cons, Nat.pow_succ]
    rw [Nat.zero_mul, Nat.zero_add, Nat.add_mul, Nat.mul_assoc, Nat.mul_comm 10 (10 ^ l.length)]
    omega
theorem digits_cons (b : UInt8) (l : List UInt8) : digits (b :: l) = (b.toNat - 48) * 10 ^ l.length + digits l := by
  unfold digits
  rw [List.foldl_cons, foldl_dig]
  simp
theorem numeral_cons {S : ByteArray} {L m d : Nat} (h : Numeral S L m) (hd : d ≤ 9) : Numeral (strOfNums [((48 + d : Nat) : Int)] ++ S) (L + 1) (d * 10 ^ L + m) := by
  obtain ⟨h1, h2, h3⟩ := h
  have e : (strOfNums [((48 + d : Nat) : Int)]).data.toList = [UInt8.ofNat (48 + d)] := rfl
  have hb : (UInt8.ofNat (48 + d)).toNat = 48 + d := u8n _ (by omega)
  refine ⟨by rw [size_join, strOfNums_size, h1]; simp; omega, ?_, ?_⟩
  · rw [data_join, e]
    intro b hb2
    rcases List.mem_append.1 hb2 with hb2 | hb2
    · simp only [List.mem_singleton] at hb2
      rw [hb2]
      unfold isDig
      rw [hb]
      omega
    · exact h2 b hb2
  · rw [data_join, e, List.cons_append, List.nil_append, digits_cons, hb, size_data, h1, h3]
    rw [show 48 + d - 48 = d by omega]

theorem numeral_nought {S : ByteArray} {L m : Nat} (h : Numeral S L m) : Numeral (⟨#[48]⟩ ++ S) (L + 1) m := by
  have := numeral_cons h (d := 0) (by omega)
  rw [Nat.zero_mul, Nat.zero_add] at this
  exact this
def runesOf (S : ByteArray) : List Nat := S.data.toList.map (fun b => b.toNat)
theorem runesOf_flat : ∀ (l : List UInt8), (∀ b ∈ l, isDig b) → flat (l.map (fun b => b.toNat)) = l
  | [], _ => rfl
  | b :: l, h => by
    have hb := h b (by simp)
    unfold isDig at hb
    rw [List.map_cons, flat_cons, enc1 (by omega), runesOf_flat l (fun x hx => h x (by simp [hx]))]
    rw [List.singleton_append]
    congr 1
    exact (u8e rfl).symm
theorem dig_kin {r : Nat} (h : 48 ≤ r ∧ r ≤ 57) : kin r = 3 := (kin_facts r).2.2.2.1 (by omega)
theorem more_digs {r : Nat} (hr : kin r = 3) : ∀ (l : List Nat), (∀ x ∈ l, kin x = 3) → more r l = l
  | [], _ => rfl
  | x :: l, h => by
    have hx := h x (by simp)
    have n35 : ¬ r = 35 := by have := kin_dig hr; omega
    have hg : goes r (kin x) = true := by
      unfold goes
      rw [if_neg n35, if_pos (Or.inl hr), hx]
      rfl
    have ih := more_digs hr l (fun y hy => h y (by simp [hy]))
    unfold more at ih ⊢
    rw [List.takeWhile_cons, if_pos hg, ih]
theorem numeral_lex {S : ByteArray} {L m : Nat} (h : Numeral S L m) (hL : 1 ≤ L) :
    (∀ r ∈ 32 :: runesOf S, okR r) ∧ (⟨#[32]⟩ ++ S : ByteArray).data.toList = flat (32 :: runesOf S) ∧ (L ≤ 9 → LexT 0 (32 :: runesOf S) [⟨2, 1, S.data.toList, m⟩] (0, 0)) ∧ (9 < L → LexT 0 (32 :: runesOf S) [] (1, 4)) := by
  obtain ⟨h1, h2, h3⟩ := h
  have hf := runesOf_flat S.data.toList h2
  have hok : ∀ r ∈ runesOf S, 48 ≤ r ∧ r ≤ 57 := by
    intro r hr
    obtain ⟨b, hb, rfl⟩ := List.mem_map.1 hr
    exact h2 b hb
  have h32 : flat [32] = [32] := by simp [flat, enc1]
  have hskip : ∀ ts e, LexT 1 (runesOf S) ts e → LexT 0 (32 :: runesOf S) ts e := by
    intro ts e hx
    refine LexT.skip 0 32 _ _ _ (by decide) ?_
    rw [blank_more (Or.inl rfl), h32, List.length_nil, List.drop_zero]
    exact hx
  refine ⟨?_, ?_, ?_, ?_⟩
  · intro r hr
    rcases List.mem_cons.1 hr with rfl | hr
    · exact Or.inl (by omega)
    · have := hok r hr
      exact Or.inl (by omega)
  · rw [data_join, flat_cons, enc1 (by omega)]
    unfold runesOf
    rw [hf]
    rfl
  all_goals
    intro hL9
    refine hskip _ _ ?_
    cases hS : runesOf S with
    | nil =>
      have := congrArg List.length hS
      unfold runesOf at this
      rw [List.length_map, size_data, List.length_nil] at this
      omega
    | cons d ds =>
      have hd : kin d = 3 := dig_kin (hok d (by rw [hS]; simp))
      have hm : more d ds = ds := more_digs hd ds (fun x hx => dig_kin (hok x (by rw [hS]; simp [hx])))
      have hfl : flat (d :: more d ds) = S.data.toList := by
        rw [hm, ← hS]
        exact hf
      have hp : passed d = false := by
        unfold passed
        rw [decide_eq_false_iff_not, hd]
        have := kin_dig hd
        omega
      have k2 : ¬ kin d = 2 := by omega
      first
        | refine LexT.tok 1 d ds [] (0, 0) _ hp ?_ ?_
          · rw [hfl]
            unfold tokOf
            rw [if_neg k2, if_pos hd, if_neg (by rw [size_data]; omega), h3]
          · rw [hm, List.drop_length]
            exact LexT.nil _
        | refine LexT.bad 1 d ds noTk 4 hp ?_ (by omega)
          rw [hfl]
          unfold tokOf
          rw [if_neg k2, if_pos hd, if_pos (by rw [size_data]; omega)]

set_option maxHeartbeats 2000000 in
set_option maxRecDepth 100000 in
theorem numbers_law (n0 z0 : Int) (w : World) : Calls Tryd.prog 9 #[.int .i64 n0, .int .i64 z0] w fun e w' => e = .returned (.bool true) ∧ Below w.heap.size w w' := by
  obtain ⟨n, hn0, hn⟩ := mid_of n0
  obtain ⟨z, hz0, hz⟩ := low_of z0 10
  have hn1 : Hid ((bits .and .i64 n0 4294967295).tmod 1000000000 = (n : Int)) := hn0
  have hz1 : Hid ((bits .and .i64 z0 65535).tmod 11 = (z : Int)) := hz0
  clear hn0 hz0
  go_enter Tryd.func9, Tryd.ntmps9
  go_wp2_with fail
  refine (shown_any _).mono ?_
  rintro e w1 ⟨rfl, hb⟩
  go_upto_region 4 with fail
  rw [hn1.out, hz1.out]
  clear hn1 hz1
  go_wp2
  go_loopw [6, 7] (fun v i wr => ∃ (q L m : Nat) (S : ByteArray), v = .string S ∧ i = .int .i64 q ∧ S.size = L ∧ L ≤ 9 ∧ Hid (Numeral S L m) ∧ Hid (n = q * 10 ^ L + m) ∧ q ≤ n ∧ Below w1.heap.size w1 wr) (fun v i _ => (RowKit.intOf i).toNat + (1 - strLen v))
  case atStart => exact ⟨n, 0, 0, ⟨#[]⟩, rfl, rfl, rfl, by omega, ⟨rfl, by simp, rfl⟩, by show n = _; omega, Nat.le_refl _, Below.refl _ _⟩
  case round =>
    obtain ⟨q, L, m, S, rfl, rfl, hSL, hL9, hnum, hsum, hqn, hbr⟩ := hrel
    have hd9 : q % 10 ≤ 9 := by omega
    have HN1 := numeral_cons hnum.out hd9
    have HST : Hid (n = (q / 10) * 10 ^ (L + 1) + ((q % 10) * 10 ^ L + m)) := by
      show n = _
      have h1 := hsum.out
      have h2 : q = (q / 10) * 10 + q % 10 := by omega
      have h3 : q * 10 ^ L = (q / 10) * 10 ^ (L + 1) + (q % 10) * 10 ^ L := by
        conv => lhs; rw [h2]
        rw [Nat.add_mul, Nat.pow_succ, Nat.mul_assoc, Nat.mul_comm 10 (10 ^ L)]
      omega
    have HNN : Hid (Numeral (strOfNums [48 + (q : Int) % 10] ++ S) (L + 1) ((q % 10) * 10 ^ L + m)) := by
      have e : (48 + (q : Int) % 10) = ((48 + q % 10 : Nat) : Int) := by omega
      rw [e]; exact HN1
    have hL8 : 0 < q → L ≤ 8 := by
      intro hq
      have h1 := hsum.out
      have h2 : 10 ^ L ≤ q * 10 ^ L := Nat.le_mul_of_pos_left _ hq
      by_cases h9 : L = 9
      · rw [h9] at h1 h2; omega
      · omega
    have hcv := cvOne wr (48 + (q : Int) % 10)
    have hbo : Below w1.heap.size w1 (wr.alloc (.cells #[.int .u8 (48 + (q : Int) % 10)] 5)) := hbr.alloc hbr.size _
    have hsz1 : (strOfNums [48 + (q : Int) % 10]).size = 1 := strOfNums_size _
    have hsz2 : (strOfNums [48 + (q : Int) % 10] ++ S).size = L + 1 := by rw [size_join, hsz1, hSL]; omega
    have HSZ2 : Hid ((strOfNums [48 + (q : Int) % 10] ++ S).size = L + 1) := hsz2
    clear hsz2 HN1
    by_cases hq : 0 < q
    · have hL := hL8 hq
      clear hL8
      go_wp2
      go_roundw
      case rel => exact ⟨q / 10, L + 1, _, _, rfl, by go_num, HSZ2.out, by omega, HNN, HST, by omega, hbo⟩
      case measure => simp only [RowKit.intOf, strLen]; rw [HSZ2.out]; omega
    · obtain rfl : q = 0 := by omega
      by_cases hS : L = 0
      · have hSe : S = ⟨#[]⟩ := by
          apply bytes_ext
          show S.data.toList = []
          apply List.eq_nil_of_length_eq_zero
          rw [size_data, hSL, hS]
        subst hSe
        have hcv0 := cvOne wr 48
        have hbo0 : Below w1.heap.size w1 (wr.alloc (.cells #[.int .u8 48] 5)) := hbr.alloc hbr.size _
        have hz1 : (strOfNums [48]).size = 1 := rfl
        have HZ : Hid (n = 0) := by
          have h1 := hsum.out
          have h2 := hnum.out.2.2
          have h3 : digits (⟨#[]⟩ : ByteArray).data.toList = 0 := rfl
          show n = 0
          omega
        clear hcv hbo HNN HST HSZ2 hsz1 hnum hsum hL8
        go_wp2
        go_roundw
        case rel => exact ⟨0, 1, 0, _, rfl, rfl, rfl, by omega, numeral_cons (S := ⟨#[]⟩) (L := 0) (m := 0) (d := 0) ⟨rfl, by simp, rfl⟩ (by omega), by show n = _; rw [HZ.out], Nat.zero_le _, hbo0⟩
        case measure => decide
      · have hne : S.toList.isEmpty = false := by
          rw [ByteArray.toList_eq, List.isEmpty_eq_false_iff]
          intro h
          have := congrArg List.length h
          rw [size_data, List.length_nil] at this
          omega
        have HNM : Hid (Numeral S L n) := by
          have h1 := hsum.out
          rw [Nat.zero_mul, Nat.zero_add] at h1
          rw [h1]; exact hnum
        clear hcv hbo HNN HST HSZ2 hsz1 hnum hsum hL8
        go_wp2
        go_loop [6, 8] (fun v i => ∃ (k : Nat) (T : ByteArray), v = .string T ∧ i = .int .i64 k ∧ k ≤ z ∧ T.size = L + k ∧ Hid (Numeral T (L + k) n)) (fun _ i => z - (RowKit.intOf i).toNat)
        case atStart => exact ⟨0, S, rfl, rfl, Nat.zero_le _, hSL, HNM⟩
        case round =>
          obtain ⟨k, T, rfl, rfl, hkz, hTk, hnT⟩ := hrel
          by_cases hlt : k < z
          · have HT1 : Hid (Numeral (⟨#[48]⟩ ++ T) (L + (k + 1)) n) := numeral_nought hnT.out
            have HT2 : Hid ((⟨#[48]⟩ ++ T : ByteArray).size = L + (k + 1)) := by show _ = _; rw [size_join, hTk]; show 1 + (L + k) = _; omega
            go_wp2
            go_round
            case rel => exact ⟨k + 1, _, rfl, by go_num, by omega, HT2.out, HT1⟩
            case measure => simp [RowKit.intOf]; omega
          · obtain rfl : k = z := by omega
            obtain ⟨ho, hl, hyes, hno⟩ := numeral_lex hnT.out (by omega)
            have hsz : (⟨#[32]⟩ ++ T : ByteArray).size ≤ 1000000 := by rw [size_join]; show 1 + T.size ≤ _; omega
            by_cases h9 : 9 < L + k
            · have HX : Hid (∀ W, Calls Tryd.prog 11 #[.string (⟨#[32]⟩ ++ T)] W fun e w' => e = .returned (.tuple #[.slice none 0 0, .int .i64 1, .int .i64 4]) ∧ Below W.heap.size W w') := fun W => lex_errs _ _ [] 1 4 W hsz ho hl (hno h9) (by omega)
              clear ho hl hyes hno hnT
              go_wp2_with fail
              refine (HX.out _).mono ?_
              rintro e w3 ⟨rfl, hb3⟩
              go_wp2
              go_ret
              exact ⟨rfl, hb.trans ((hbr.trans (hb3.mono hbr.size)).mono hb.size)⟩
            · have HX : Hid (∀ W, Calls Tryd.prog 11 #[.string (⟨#[32]⟩ ++ T)] W fun e w' => ∃ a cap, e = .returned (.tuple #[.slice a 1 cap, .int .i64 0, .int .i64 0]) ∧ TksAt w' a [⟨2, 1, T.data.toList, n⟩] ∧ Below W.heap.size W w') := fun W => lex_toks _ _ _ W hsz ho hl (hyes (by omega))
              clear ho hl hyes hno hnT
              go_wp2_with fail
              refine (HX.out _).mono ?_
              rintro e w3 ⟨a, cap, rfl, hta, hb3⟩
              obtain ⟨g, rfl, hg, hc⟩ := hta (by simp)
              have hTT : (⟨T.data.toList.toArray⟩ : ByteArray) = T := by cases T; simp
              have k0 : w3.cell? ⟨g, 0, none⟩ = some (.int .i64 2) := (hc 0 (by simp)).1
              have k1 : w3.cell? ⟨g, 1, none⟩ = some (.int .i64 1) := (hc 0 (by simp)).2.1
              have k2 : w3.cell? ⟨g, 2, none⟩ = some (.string T) := (hc 0 (by simp)).2.2.1.trans (by show some (Value.string ⟨T.data.toList.toArray⟩) = _; rw [hTT])
              have k3 : w3.cell? ⟨g, 3, none⟩ = some (.int .i64 n) := (hc 0 (by simp)).2.2.2
              clear hc hta hTT
              go_wp2
              go_ret
              exact ⟨rfl, hb.trans ((hbr.trans (hb3.mono hbr.size)).mono hb.size)⟩

end Go.Proofs.YtfklgicmhbkoiaaDoor
