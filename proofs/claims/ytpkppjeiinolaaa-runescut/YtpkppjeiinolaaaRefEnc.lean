/-
  The document's Bytes and Encode: what each answers.
-/
import Derived.Test.YtpkppjeiinolaaaFacts
namespace Go.Proofs.Ytpkppjeiinolaaa
open Go.RowKit Go.Lib

section
variable (w : World)
theorem cv1 (x : Int) : (convert 46 9 (.slice (some ⟨w.heap.size, 0, none⟩) 1 1)).run Try.prog (w.alloc (.cells #[.int .u8 x] 5)) = .ok (.string (strOfNums [x])) (w.alloc (.cells #[.int .u8 x] 5)) :=
  run_convert_bytes_arg _ 46 5 Try.underlying46 Try.underlying5 w.heap.size 0 1 1 [x] rfl (fun i hi => by match i, hi with | 0, _ => simp) 9 Try.underlying9
theorem cv2 (x y : Int) : (convert 46 9 (.slice (some ⟨w.heap.size, 0, none⟩) 2 2)).run Try.prog (w.alloc (.cells #[.int .u8 x, .int .u8 y] 5)) = .ok (.string (strOfNums [x, y])) (w.alloc (.cells #[.int .u8 x, .int .u8 y] 5)) :=
  run_convert_bytes_arg _ 46 5 Try.underlying46 Try.underlying5 w.heap.size 0 2 2 [x, y] rfl (fun i hi => by
    match i, hi with
    | 0, _ => simp
    | 1, _ => simp) 9 Try.underlying9
theorem cv3 (x y z : Int) : (convert 46 9 (.slice (some ⟨w.heap.size, 0, none⟩) 3 3)).run Try.prog (w.alloc (.cells #[.int .u8 x, .int .u8 y, .int .u8 z] 5)) = .ok (.string (strOfNums [x, y, z])) (w.alloc (.cells #[.int .u8 x, .int .u8 y, .int .u8 z] 5)) :=
  run_convert_bytes_arg _ 46 5 Try.underlying46 Try.underlying5 w.heap.size 0 3 3 [x, y, z] rfl (fun i hi => by
    match i, hi with
    | 0, _ => simp
    | 1, _ => simp
    | 2, _ => simp) 9 Try.underlying9
theorem cv4 (x y z u : Int) : (convert 46 9 (.slice (some ⟨w.heap.size, 0, none⟩) 4 4)).run Try.prog (w.alloc (.cells #[.int .u8 x, .int .u8 y, .int .u8 z, .int .u8 u] 5)) = .ok (.string (strOfNums [x, y, z, u])) (w.alloc (.cells #[.int .u8 x, .int .u8 y, .int .u8 z, .int .u8 u] 5)) :=
  run_convert_bytes_arg _ 46 5 Try.underlying46 Try.underlying5 w.heap.size 0 4 4 [x, y, z, u] rfl (fun i hi => by
    match i, hi with
    | 0, _ => simp
    | 1, _ => simp
    | 2, _ => simp
    | 3, _ => simp) 9 Try.underlying9
end

theorem enc_int {r : Int} (h : okI r = true) : (Utf8.encode r).data.toList = enc r.toNat := by
  obtain ⟨h1, h2⟩ := okI_ok h
  have := encode_enc h1
  rwa [← h2] at this
theorem str1 {r : Int} (h : okI r = true) (_h0 : 0 ≤ r) (h1 : r < 128) : strOfNums [r] = Utf8.encode r :=
  bytes_ext (by rw [enc_int h, enc1 (by omega)]; rfl)
theorem str2 {r : Int} (h : okI r = true) (h0 : 128 ≤ r) (h1 : r < 2048) : strOfNums [192 + r / 64, 128 + r % 64] = Utf8.encode r :=
  bytes_ext (by
    rw [enc_int h, enc2 (by omega) (by omega), strOfNums_data]
    simp only [List.map_cons, List.map_nil]
    rw [show (192 + r / 64).toNat = 192 + r.toNat / 64 by omega, show (128 + r % 64).toNat = 128 + r.toNat % 64 by omega])
theorem str3 {r : Int} (h : okI r = true) (h0 : 2048 ≤ r) (h1 : r < 65536) : strOfNums [224 + r / 4096, 128 + r / 64 % 64, 128 + r % 64] = Utf8.encode r :=
  bytes_ext (by
    rw [enc_int h, enc3 (by omega) (by omega), strOfNums_data]
    simp only [List.map_cons, List.map_nil]
    rw [show (224 + r / 4096).toNat = 224 + r.toNat / 4096 by omega, show (128 + r / 64 % 64).toNat = 128 + r.toNat / 64 % 64 by omega, show (128 + r % 64).toNat = 128 + r.toNat % 64 by omega])
theorem str4 {r : Int} (h : okI r = true) (h0 : 65536 ≤ r) (_h1 : r ≤ 1114111) : strOfNums [240 + r / 262144, 128 + r / 4096 % 64, 128 + r / 64 % 64, 128 + r % 64] = Utf8.encode r :=
  bytes_ext (by
    rw [enc_int h, enc4 (by omega), strOfNums_data]
    simp only [List.map_cons, List.map_nil]
    rw [show (240 + r / 262144).toNat = 240 + r.toNat / 262144 by omega, show (128 + r / 4096 % 64).toNat = 128 + r.toNat / 4096 % 64 by omega, show (128 + r / 64 % 64).toNat = 128 + r.toNat / 64 % 64 by omega, show (128 + r % 64).toNat = 128 + r.toNat % 64 by omega])

set_option maxHeartbeats 1000000 in
theorem refBytes_any (r : Int) (w : World) (h : okI r = true) : Calls Try.prog 23 #[.int .i32 r] w fun e w' => e = .returned (.string (Utf8.encode r)) ∧ Below w.heap.size w w' := by
  have hb := ok_yes h
  have hw := wid_facts r
  have HO : Hid (okI r = true) := h
  clear h
  by_cases h1 : r < 128
  · have hz : wid r = 1 := by omega
    have kc := cv1 w
    clear hw
    go_enter Try.func23, Try.ntmps23
    go_wp2_with (go_at_call 17; refine (refWidth_any _ _ (by omega) (by omega)).mono ?_; rintro e w' ⟨rfl, rfl⟩)
    go_ret
    exact ⟨congrArg (fun x => Ending.returned (Value.string x)) (str1 HO.out (by omega) (by omega)), (Below.refl _ _).alloc (Nat.le_refl _) _⟩
  by_cases h2 : r < 2048
  · have hz : wid r = 2 := by omega
    have kc := cv2 w
    clear hw
    go_enter Try.func23, Try.ntmps23
    go_wp2_with (go_at_call 17; refine (refWidth_any _ _ (by omega) (by omega)).mono ?_; rintro e w' ⟨rfl, rfl⟩)
    go_ret
    exact ⟨congrArg (fun x => Ending.returned (Value.string x)) (str2 HO.out (by omega) (by omega)), (Below.refl _ _).alloc (Nat.le_refl _) _⟩
  by_cases h3 : r < 65536
  · have hz : wid r = 3 := by omega
    have kc := cv3 w
    clear hw
    go_enter Try.func23, Try.ntmps23
    go_wp2_with (go_at_call 17; refine (refWidth_any _ _ (by omega) (by omega)).mono ?_; rintro e w' ⟨rfl, rfl⟩)
    go_ret
    exact ⟨congrArg (fun x => Ending.returned (Value.string x)) (str3 HO.out (by omega) (by omega)), (Below.refl _ _).alloc (Nat.le_refl _) _⟩
  · have hz : wid r = 4 := by omega
    have kc := cv4 w
    clear hw
    go_enter Try.func23, Try.ntmps23
    go_wp2_with (go_at_call 17; refine (refWidth_any _ _ (by omega) (by omega)).mono ?_; rintro e w' ⟨rfl, rfl⟩)
    go_ret
    exact ⟨congrArg (fun x => Ending.returned (Value.string x)) (str4 HO.out (by omega) (by omega)), (Below.refl _ _).alloc (Nat.le_refl _) _⟩

theorem bytes_snoc (ns : List Int) (k : Nat) (h : k < ns.length) : runesBytes (ns.take (k + 1)) = runesBytes (ns.take k) ++ Utf8.encode (ns.getD k 0) := by
  rw [List.take_succ_eq_append_getElem h]
  unfold runesBytes
  rw [List.foldl_append]
  simp [List.getD, h]

/-- A row of numbers that came in: how long it is, and its cells. -/
def RowI (w : World) (a : Option Addr) (n : Nat) (ns : List Int) : Prop :=
  ns.length = n ∧ (∀ x ∈ ns, -2147483648 ≤ x ∧ x ≤ 2147483647) ∧ (0 < n → ∃ b off, a = some ⟨b, off, none⟩ ∧ b < w.heap.size ∧ ∀ j, j < n → w.cell? ⟨b, off + j, none⟩ = some (.int .i32 (ns.getD j 0)))
theorem RowI.below {w w' : World} {a : Option Addr} {n : Nat} {ns : List Int} (h : RowI w a n ns) (hb : Below w.heap.size w w') : RowI w' a n ns := by
  refine ⟨h.1, h.2.1, fun hn => ?_⟩
  obtain ⟨b, off, ha, hlt, hc⟩ := h.2.2 hn
  exact ⟨b, off, ha, Nat.lt_of_lt_of_le hlt hb.size, fun j hj => (hb.cell (p := ⟨b, off + j, none⟩) hlt).trans (hc j hj)⟩
theorem RowI.bnd {w : World} {a : Option Addr} {n : Nat} {ns : List Int} (h : RowI w a n ns) (j : Nat) : -2147483648 ≤ ns.getD j 0 ∧ ns.getD j 0 ≤ 2147483647 := by
  by_cases hj : j < ns.length
  · have := h.2.1 ns[j] (List.getElem_mem hj)
    simpa [List.getD, hj] using this
  · simp [List.getD, show ns.length ≤ j by omega]

set_option maxHeartbeats 400000 in
theorem encode_zero (a : Option Addr) (cap : Nat) (w : World) : Calls Try.prog 14 #[.slice a 0 cap] w fun e w' => e = .returned (encAns []) ∧ w' = w := by
  have hcv : (convert 32 9 (.slice a 0 cap)).run Try.prog w = .ok (.string .empty) w := by
    cases a with
    | none => exact run_convert_runes_nil w 32 9 21 0 cap Try.underlying32 Try.underlying21 Try.underlying9
    | some x => exact run_convert_runes w 32 9 21 x 0 cap [] (Nat.le_refl _) Try.underlying32 Try.underlying21 Try.underlying9 (fun j hj => by simp at hj)
  go_enter Try.func14, Try.ntmps14
  go_wp2
  go_loop [8] (fun i => i = .int .i64 0) (fun _ => 0)
  case atStart => rfl
  case round =>
    subst hrel
    go_wp2
    go_ret2
    exact ⟨rfl, rfl⟩
theorem encode_arg (a : Option Addr) (n cap : Nat) (ns : List Int) (w : World) (hs : n ≤ 1000000) (h : RowI w a n ns) : Calls Try.prog 14 #[.slice a n cap] w fun e w' => e = .returned (encAns ns) ∧ w' = w := by
  by_cases hn : 0 < n
  · obtain ⟨b, off, rfl, _, hc⟩ := h.2.2 hn
    exact encode_row b off n cap ns w h.1 hs hc
  · obtain rfl : n = 0 := by omega
    have : ns = [] := List.eq_nil_of_length_eq_zero h.1
    subst this
    exact encode_zero a cap w

set_option maxHeartbeats 1000000 in
theorem refEncode_any (a : Option Addr) (n cap : Nat) (ns : List Int) (w : World) (hs : n ≤ 1000000) (h : RowI w a n ns) : Calls Try.prog 15 #[.slice a n cap] w fun e w' => e = .returned (encAns ns) ∧ Below w.heap.size w w' := by
  have HR : Hid (RowI w a n ns) := h
  clear h
  go_enter Try.func15, Try.ntmps15
  go_wp2
  go_loopw [4, 5] (fun s i wr => ∃ k : Nat, k ≤ n ∧ i = .int .i64 k ∧ s = .string (runesBytes (ns.take k)) ∧ (∀ j, j < k → okI (ns.getD j 0) = true) ∧ Below w.heap.size w wr) (fun _ i _ => n - (intOf i).toNat)
  case atStart => exact ⟨0, Nat.zero_le _, rfl, rfl, fun j hj => by omega, Below.refl _ _⟩
  case round =>
    obtain ⟨k, hk, rfl, rfl, hall, hb⟩ := hrel
    have HA : Hid (∀ j, j < k → okI (ns.getD j 0) = true) := hall
    clear hall
    by_cases hlt : k < n
    · obtain ⟨b, off, rfl, hbl, hcs⟩ := HR.out.2.2 (by omega)
      have hc := (hb.cell (p := ⟨b, off + k, none⟩) hbl).trans (hcs k hlt)
      have hbd := HR.out.bnd k
      have hsn := bytes_snoc ns k (by have := HR.out.1; omega)
      obtain ⟨r, hr⟩ : ∃ r, r = ns.getD k 0 := ⟨_, rfl⟩
      rw [← hr] at hc hbd hsn
      have HX : Hid (r = ns.getD k 0) := hr
      have HS : Hid (runesBytes (ns.take (k + 1)) = runesBytes (ns.take k) ++ Utf8.encode r) := hsn
      clear hr hcs hsn
      obtain ⟨q0, q1⟩ := hbd
      have hsz := runesBytes_size_le (ns.take k)
      rw [List.length_take] at hsz
      have hes := encode_size_le r
      obtain ⟨B, hB⟩ : ∃ B, B = runesBytes (ns.take k) := ⟨_, rfl⟩
      rw [← hB] at hsz ⊢
      have HB : Hid (B = runesBytes (ns.take k)) := hB
      clear hB
      cases ho : okI r with
      | false =>
        have hz : (wid r == 0) = true := beq_iff_eq.2 (by have := wid_facts r; have := ok_not ho; omega)
        go_wp2_with (go_at_call 17; refine (refWidth_any _ _ q0 q1).mono ?_; rintro e w' ⟨rfl, rfl⟩)
        go_ret2
        exact ⟨by rw [encAns_bad (j := k) (by rw [HR.out.1]; exact hlt) (by rw [← HX.out]; exact ho)]; rfl, hb⟩
      | true =>
        have hz : (wid r == 0) = false := beq_eq_false_iff_ne.2 (by have := wid_facts r; have := ok_yes ho; omega)
        go_wp2_with (first | (go_at_call 17; refine (refWidth_any _ _ q0 q1).mono ?_; rintro e w' ⟨rfl, rfl⟩) | (go_at_call 23; refine (refBytes_any _ _ ho).mono ?_; rintro e w5 ⟨rfl, hb5⟩))
        go_roundw
        case rel =>
          refine ⟨k + 1, by omega, by go_num, by rw [HS.out, HB.out], fun j hj => ?_, hb.trans (hb5.mono hb.size)⟩
          by_cases hjk : j = k
          · rw [hjk, ← HX.out]; exact ho
          · exact HA.out j (by omega)
        case measure => simp [intOf]; omega
    · obtain rfl : k = n := by omega
      go_wp2
      go_ret2
      refine ⟨?_, hb⟩
      rw [encAns_ok (fun j hj => HA.out j (by rw [← HR.out.1]; exact hj)), List.take_of_length_le (by rw [HR.out.1]; exact Nat.le_refl _)]
      rfl

end Go.Proofs.Ytpkppjeiinolaaa
