/-
  carcanetlaw04.PartOrder answers true, for any part that keeps the contracts.
-/
import Derived.Test.YthakjmfjbibbjaaLPTells
import Derived.Test.YthakjmfjbibbjaaB11
namespace Go.Proofs.Ythakjmfjbibbjaa
open Go.RowKit Go.Lib

/-- A number, counted round. -/
def rndN (m : Nat) (x : Int) : Nat := ((bits .and .i64 x 65535).tmod (m : Int)).toNat
theorem rndN_is {m : Nat} (x : Int) (hm : 0 < m) : (bits .and .i64 x 65535).tmod (m : Int) = (rndN m x : Int) ∧ rndN m x < m := by
  obtain ⟨p, h1, h2⟩ := rnd_of x hm
  unfold rndN
  rw [h1]
  exact ⟨rfl, h2⟩
def prRnd (m : Nat) (es : List (Int × Int)) : List (Nat × Nat) := es.map (fun e => (rndN m e.1, rndN m e.2))
theorem prRnd_in {m : Nat} (hm : 0 < m) (es : List (Int × Int)) : PairsIn m (prRnd m es) := fun e he => by
  obtain ⟨x, _, rfl⟩ := List.mem_map.1 he
  exact ⟨(rndN_is x.1 hm).2, (rndN_is x.2 hm).2⟩
theorem prRnd_take {m : Nat} {es : List (Int × Int)} {k : Nat} (hk : k < es.length) : prRnd m (es.take (k + 1)) = prRnd m (es.take k) ++ [(rndN m es[k].1, rndN m es[k].2)] := by
  unfold prRnd
  rw [List.take_succ_eq_append_getElem hk, List.map_append]
  rfl
theorem prRnd_drop {m : Nat} {es : List (Int × Int)} {k : Nat} (hk : k < es.length) : prRnd m (es.drop k) = (rndN m es[k].1, rndN m es[k].2) :: prRnd m (es.drop (k + 1)) := by
  unfold prRnd
  rw [List.drop_eq_getElem_cons hk, List.map_cons]
theorem joinR_in {n : Nat} {f : Nat → Nat} {a b : Nat} (ha : a < n) (hb : b < n) : joinR n f (a : Int) (b : Int) = joinF f a b := by
  unfold joinR
  rw [if_pos ⟨⟨by omega, by omega⟩, by omega, by omega⟩]
  rfl
/-- The same pairs, the other end first. -/
def Turned (P Q : List (Nat × Nat)) : Prop := (∀ e ∈ P, (e.2, e.1) ∈ Q) ∧ ∀ e ∈ Q, (e.2, e.1) ∈ P
theorem turned_put {P Q : List (Nat × Nat)} (h : Turned P Q) (a b : Nat) : Turned ((a, b) :: P) (Q ++ [(b, a)]) := by
  refine ⟨fun e he => ?_, fun e he => ?_⟩
  · rcases List.mem_cons.1 he with rfl | he
    · simp
    · exact List.mem_append_left _ (h.1 e he)
  · rcases List.mem_append.1 he with he | he
    · exact List.mem_cons_of_mem _ (h.2 e he)
    · simp at he; subst he; simp
theorem turned_one {n : Nat} {f g : Nat → Nat} {P Q : List (Nat × Nat)} (hf : Pt n f) (hg : Pt n g) (tf : Tells n f P) (tg : Tells n g Q) (h : Turned P Q) : ∀ i, i < n → f i = g i :=
  tells_one hf hg tf tg (fun e he => (Cl.of (h.1 e he)).symm) (fun e he => (Cl.of (h.2 e he)).symm)
theorem cntF_congr {f g : Nat → Nat} {n : Nat} (h : ∀ i, i < n → f i = g i) : cntF f n = cntF g n := by
  unfold cntF
  rw [List.filter_congr (fun i hi => by rw [h i (by simpa using hi)])]

/-- Two parts, side by side. -/
structure PPr (PA : World → Addr → Nat → (Nat → Nat) → (Nat → Prop) → Prop) (u w : World) (b0 : Nat) (p q : Addr) (m : Nat) (f h : Nat → Nat) (S T : Nat → Prop) : Prop where
  pa : PA w p m f S
  qa : PA w q m h T
  sep : ∀ k, S k → ¬ T k
  geS : ∀ k, S k → b0 ≤ k
  geT : ∀ k, T k → b0 ≤ k
  bel : Below b0 u w
theorem PPr.left {PA : World → Addr → Nat → (Nat → Nat) → (Nat → Prop) → Prop} (O : PartOps PA) {u w w' : World} {b0 : Nat} {p q : Addr} {m : Nat} {f f' h : Nat → Nat} {S T : Nat → Prop} (H : PPr PA u w b0 p q m f h S T) (hN : PNext PA S w w' p m f') (h0 : b0 ≤ u.heap.size) : ∃ S', PPr PA u w' b0 p q m f' h S' T := by
  obtain ⟨S', h1, h2, h3, h4, h5⟩ := hN.step H.geS H.bel (Nat.le_trans h0 H.bel.size)
  have hT := (O.own H.qa).2.2
  exact ⟨S', h1, O.keep H.qa h4 (fun k hk e => H.sep k e hk), fun k hk e => (h5 k hk).elim (fun e2 => H.sep k e2 e) (fun e2 => by have := hT k e; omega), h2, H.geT, h3⟩
theorem PPr.turn {PA : World → Addr → Nat → (Nat → Nat) → (Nat → Prop) → Prop} {u w : World} {b0 : Nat} {p q : Addr} {m : Nat} {f h : Nat → Nat} {S T : Nat → Prop} (H : PPr PA u w b0 p q m f h S T) : PPr PA u w b0 q p m h f T S := ⟨H.qa, H.pa, fun k hk e => H.sep k e hk, H.geT, H.geS, H.bel⟩
theorem PPr.right {PA : World → Addr → Nat → (Nat → Nat) → (Nat → Prop) → Prop} (O : PartOps PA) {u w w' : World} {b0 : Nat} {p q : Addr} {m : Nat} {f h h' : Nat → Nat} {S T : Nat → Prop} (H : PPr PA u w b0 p q m f h S T) (hN : PNext PA T w w' q m h') (h0 : b0 ≤ u.heap.size) : ∃ T', PPr PA u w' b0 p q m f h' S T' := by
  obtain ⟨T', h1⟩ := H.turn.left O hN h0
  exact ⟨T', h1.turn⟩
theorem PPr.drew {PA : World → Addr → Nat → (Nat → Nat) → (Nat → Prop) → Prop} (O : PartOps PA) {u w : World} {b0 : Nat} {p q : Addr} {m : Nat} {f h : Nat → Nat} {S T : Nat → Prop} (H : PPr PA u w b0 p q m f h S T) : PPr PA u w.drew b0 p q m f h S T :=
  ⟨O.keep H.pa (KeptBut.of_whole (fun _ => False) ((Below.refl _ _).drew)) (fun _ _ e => e), O.keep H.qa (KeptBut.of_whole (fun _ => False) ((Below.refl _ _).drew)) (fun _ _ e => e), H.sep, H.geS, H.geT, H.bel.drew⟩

set_option maxHeartbeats 4000000 in
set_option maxRecDepth 100000 in
theorem partOrder_law {PA : World → Addr → Nat → (Nat → Nat) → (Nat → Prop) → Prop} (O : PartOps PA) (n : Int) (a : Option Addr) (len cap : Nat) (l : List (Int × Int)) (w : World) (hl : len = l.length) (hc : len ≤ cap) (hcm : cap ≤ maxLen) (ha : a = none → cap = 0) (hE : EAt w a l) :
    Calls Try.prog 5 #[.int .i64 n, .slice a len cap] w fun e w' => e = .returned (.bool true) ∧ Below w.heap.size w w' := by
  have HO := hid O
  obtain ⟨k0', hk0'⟩ := ex_eq (min len 60)
  obtain ⟨es, hes⟩ := ex_eq (l.take k0')
  have hek : es.length = k0' := by rw [hes, List.length_take]; omega
  obtain ⟨K, hK⟩ := ex_eq es.length
  have HEK := hid hK
  have k5 : K ≤ 60 := by omega
  have kmin : min (len : Int) 60 = (K : Int) := by omega
  have kc : (K : Int) ≤ (cap : Int) := by omega
  have k0 : (0 : Int) ≤ (K : Int) := by omega
  have k9 : (K : Int) ≤ (len : Int) := by omega
  obtain ⟨b0, hb0⟩ := ex_eq w.heap.size
  have HB0 := hid hb0
  have HEB : Hid (∀ X, Below b0 w X → EAt X a es) := fun X h => by
    rw [hes]; exact eat_take (hE.below (by rw [← hb0]; exact h)) k0'
  obtain ⟨p0, hp0, hp60⟩ := rnd_of n (m := 60) (by omega)
  obtain ⟨m, hm⟩ := ex_eq (p0 + 1)
  have hm1 : 1 + (p0 : Int) = (m : Int) := by omega
  have hm2 : m ≤ 60 := by omega
  have hm3 : 0 < m := by omega
  have hp1 : (bits .and .i64 n 65535).tmod 60 = (p0 : Int) := hp0
  have hp2 : (0 : Int) ≤ (p0 : Int) := by omega
  have hp3 : (p0 : Int) < 60 := by omega
  have h00 : b0 ≤ w.heap.size := by omega
  clear O hl hE hb0 hes hek hk0' hp0 hm hK
  go_enter Try.func5, Try.ntmps5
  go_wp2_with fail
  refine (pshown_any HO.out w).mono ?_
  rintro e w1 ⟨rfl, hb1⟩
  rw [← HB0.out] at hb1
  have hs1 : b0 ≤ w1.heap.size := Nat.le_trans h00 hb1.size
  go_wp2_with fail
  clear hp1 hp2 hp3 hp60 hm1
  refine (HO.out.new m w1).mono ?_
  rintro e w2 ⟨p, rfl, m1, S1, hmm1, hP1, hS1, hb2⟩
  obtain rfl : m1 = m := by omega
  have HP1 := hid hP1
  have HS1 := hid hS1
  have hs2 := hb2.size
  have hb3 : Below b0 w w2 := hb1.trans (hb2.mono hs1)
  clear hmm1 hP1 hS1 hb2
  go_wp2_with fail
  refine (HO.out.new m1 w2).mono ?_
  rintro e w3 ⟨q, rfl, m2, T1, hmm2, hQ1, hT1, hb4⟩
  obtain rfl : m2 = m1 := by omega
  have HT : Hid (∃ f S T, PPr PA w w3 b0 p q m2 f (fun i => i) S T ∧ Tells m2 f (prRnd m2 (es.take 0))) := by
    have hSl := (HO.out.own HP1.out).2.2
    exact ⟨_, S1, T1, ⟨HO.out.keep HP1.out (KeptBut.of_below hb4) (fun k hk e => by have := hSl k hk; omega), hQ1, fun k hk e => by have := hSl k hk; have := hT1 k e; omega, fun k hk => by have := HS1.out k hk; omega, fun k hk => by have := hT1 k hk; omega, hb3.trans (hb4.mono (by omega))⟩, tells_new _⟩
  clear hmm2 hQ1 hT1 hb4 HP1 HS1 hb3 hb1
  go_upto_region 7 with fail
  go_cut [1] (fun v wx => v = .slice a K cap ∧ wx = w3)
  case first =>
    cases a with
    | none =>
      obtain rfl := ha rfl
      obtain rfl : len = 0 := by omega
      obtain rfl : K = 0 := by simp at k9; omega
      clear ha kmin kc k0 k5 hc hcm k9
      go_wp2
      all_goals go_meet
      all_goals exact ⟨rfl, rfl⟩
    | some ad =>
      clear ha
      go_wp2
      all_goals go_meet
      all_goals exact ⟨rfl, rfl⟩
  case rest =>
    obtain ⟨rfl, hwc⟩ := hcut
    rw [hwc]
    clear hwc kmin kc k9 hc hcm ha
    have q4 : ¬ (m2 : Int) = 0 := by omega
    have q6 : ¬ m2 = 0 := by omega
    go_wp2
    go_loopg [8] K (fun G i wz => ∃ k : Nat, k ≤ K ∧ K - k ≤ G ∧ i = .int .i64 k ∧ Hid (∃ f S T, PPr PA w wz b0 p q m2 f (fun i => i) S T ∧ Tells m2 f (prRnd m2 (es.take k))))
    case atStart => exact ⟨0, Nat.zero_le _, by omega, rfl, HT⟩
    case round =>
      obtain ⟨k, hk, hG, rfl, hT⟩ := hrel
      obtain ⟨f, S, T, hTw, hTl⟩ := hT.out
      by_cases hlt : k < K
      · have hkr : k < es.length := by rw [← HEK.out]; exact hlt
        obtain ⟨gl, off, rfl, hgl, d0, d1⟩ := (HEB.out _ hTw.bel).at2 hkr
        obtain ⟨hp, hpm⟩ := rndN_is (m := m2) es[k].1 hm3
        obtain ⟨hq, hqm⟩ := rndN_is (m := m2) es[k].2 hm3
        have HTK := hid (prRnd_take (m := m2) hkr)
        obtain ⟨e1, he1⟩ := ex_eq es[k].1
        obtain ⟨e2, he2⟩ := ex_eq es[k].2
        rw [← he1] at d0 hp hpm HTK
        rw [← he2] at d1 hq hqm HTK
        have HC : Hid (∀ X, Below b0 w X → X.cell? ⟨gl, off + k * 2, none⟩ = some (.int .i64 e1) ∧ X.cell? ⟨gl, off + k * 2 + 1, none⟩ = some (.int .i64 e2)) := fun X hX => by
          obtain ⟨g', off', ha', _, z0, z1⟩ := (HEB.out X hX).at2 hkr
          cases ha'
          rw [he1, he2]; exact ⟨z0, z1⟩
        obtain ⟨x, hx⟩ := ex_eq (rndN m2 e1)
        obtain ⟨y, hy⟩ := ex_eq (rndN m2 e2)
        rw [← hx] at hp hpm HTK
        rw [← hy] at hq hqm HTK
        have q1 : (k : Int) < (K : Int) := by omega
        have q5 : (0 : Int) ≤ (k : Int) := by omega
        obtain ⟨r1, hr1⟩ := boolR_of (joinI m2 f x y)
        have HR1 := hid hr1
        have hS := hid2 (show wr.drew.cell? ⟨gl, off + k * 2, none⟩ = some (.int .i64 e1) from d0) (show wr.drew.cell? ⟨gl, off + k * 2 + 1, none⟩ = some (.int .i64 e2) from d1)
        have HTd := hid (hTw.drew HO.out)
        have HTL := hid hTl
        clear he1 he2 hr1 hTw hTl hT hgl hx hy
        go_wp2_with fail
        go_region_held3 (fun X => X.cell? ⟨gl, off + k * 2, none⟩ = some (.int .i64 e1) ∧ X.cell? ⟨gl, off + k * 2 + 1, none⟩ = some (.int .i64 e2)) (first | exact hS | exact hS7)
          (first | (go_at_call 15; refine (HO.out.join _ p m2 f S x y r1 HTd.out.pa HR1.out).mono ?_; rintro e w7 ⟨rfl, hN7⟩; obtain ⟨S7, hT7⟩ := HTd.out.left HO.out hN7 h00; have hS7 := HC.out w7 hT7.bel))
        all_goals
          have HNX : Hid (∃ f S T, PPr PA w w7 b0 p q m2 f (fun i => i) S T ∧ Tells m2 f (prRnd m2 (es.take (k + 1)))) := ⟨_, S7, T, hT7, by
            rw [HTK.out, joinR_in hpm hqm]
            exact tells_join HTL.out (prRnd_in hm3 _) hpm hqm⟩
          clear hT7 hN7 hS7 hS HTd d0 d1
          go_wp2
          go_roundg (K - (k + 1))
          case measure => omega
          case rel => exact ⟨k + 1, by omega, Nat.le_refl _, by go_num, HNX⟩
      · obtain rfl : k = K := by omega
        have htk : es.take k = es := by rw [HEK.out, List.take_length]
        rw [htk] at hTl
        have HTF : Hid (Tells m2 f (prRnd m2 es)) := hTl
        have HT2 : Hid (∃ h S T Q, PPr PA w wr b0 p q m2 f h S T ∧ Tells m2 h Q ∧ PairsIn m2 Q ∧ Turned (prRnd m2 (es.drop k)) Q) := ⟨_, S, T, [], hTw, tells_new _, fun e he => absurd he (by simp), by
          rw [HEK.out, List.drop_length]; exact ⟨fun e he => absurd he (by simp [prRnd]), fun e he => absurd he (by simp)⟩⟩
        clear hTl htk hTw hT
        go_wp2
        go_loopg [9] k (fun G i wz => ∃ (t : Nat) (z : Int), t ≤ k ∧ t ≤ G ∧ i = .int .i64 z ∧ z = (t : Int) - 1 ∧ Hid (∃ h S T Q, PPr PA w wz b0 p q m2 f h S T ∧ Tells m2 h Q ∧ PairsIn m2 Q ∧ Turned (prRnd m2 (es.drop t)) Q))
        case atStart => exact ⟨k, _, Nat.le_refl _, Nat.le_refl _, rfl, by go_num, HT2⟩
        case round =>
          obtain ⟨t, z, htk, htG, rfl, hz, hT⟩ := hrel
          obtain ⟨h, S, T, Q, hTw, hTl, hPQ, hTu⟩ := hT.out
          cases t with
          | succ j =>
            obtain rfl : z = (j : Int) := by omega
            have hjr : j < es.length := by rw [← HEK.out]; omega
            obtain ⟨gl, off, rfl, hgl, d0, d1⟩ := (HEB.out _ hTw.bel).at2 hjr
            obtain ⟨hp, hpm⟩ := rndN_is (m := m2) es[j].1 hm3
            obtain ⟨hq, hqm⟩ := rndN_is (m := m2) es[j].2 hm3
            have HDR := hid (prRnd_drop (m := m2) hjr)
            obtain ⟨e1, he1⟩ := ex_eq es[j].1
            obtain ⟨e2, he2⟩ := ex_eq es[j].2
            rw [← he1] at d0 hp hpm HDR
            rw [← he2] at d1 hq hqm HDR
            have HC : Hid (∀ X, Below b0 w X → X.cell? ⟨gl, off + j * 2, none⟩ = some (.int .i64 e1) ∧ X.cell? ⟨gl, off + j * 2 + 1, none⟩ = some (.int .i64 e2)) := fun X hX => by
              obtain ⟨g', off', ha', _, z0, z1⟩ := (HEB.out X hX).at2 hjr
              cases ha'
              rw [he1, he2]; exact ⟨z0, z1⟩
            obtain ⟨x, hx⟩ := ex_eq (rndN m2 e1)
            obtain ⟨y, hy⟩ := ex_eq (rndN m2 e2)
            rw [← hx] at hp hpm HDR
            rw [← hy] at hq hqm HDR
            have q1 : (j : Int) < (k : Int) := by omega
            have q5 : (0 : Int) ≤ (j : Int) := by omega
            obtain ⟨r1, hr1⟩ := boolR_of (joinI m2 h y x)
            have HR1 := hid hr1
            have hS := hid2 (show wr.drew.cell? ⟨gl, off + j * 2, none⟩ = some (.int .i64 e1) from d0) (show wr.drew.cell? ⟨gl, off + j * 2 + 1, none⟩ = some (.int .i64 e2) from d1)
            have HTd := hid (hTw.drew HO.out)
            have HTL := hid hTl
            have HPQ := hid hPQ
            have HTU := hid hTu
            clear he1 he2 hr1 hTw hTl hT hgl hx hy hPQ hTu hz
            go_wp2_with fail
            go_region_held3 (fun X => X.cell? ⟨gl, off + j * 2, none⟩ = some (.int .i64 e1) ∧ X.cell? ⟨gl, off + j * 2 + 1, none⟩ = some (.int .i64 e2)) (first | exact hS | exact hS7)
              (first | (go_at_call 15; refine (HO.out.join _ q m2 h T y x r1 HTd.out.qa HR1.out).mono ?_; rintro e w7 ⟨rfl, hN7⟩; obtain ⟨T7, hT7⟩ := HTd.out.right HO.out hN7 h00; have hS7 := HC.out w7 hT7.bel))
            all_goals
              have HNX : Hid (∃ h S T Q, PPr PA w w7 b0 p q m2 f h S T ∧ Tells m2 h Q ∧ PairsIn m2 Q ∧ Turned (prRnd m2 (es.drop j)) Q) := ⟨_, S, T7, Q ++ [(y, x)], hT7, by
                rw [joinR_in hqm hpm]
                exact tells_join HTL.out HPQ.out hqm hpm, pairsIn_put HPQ.out hqm hpm, by rw [HDR.out]; exact turned_put HTU.out x y⟩
              clear hT7 hN7 hS7 hS HTd d0 d1
              go_wp2
              go_roundg j
              case measure => omega
              case rel => exact ⟨j, _, by omega, Nat.le_refl _, rfl, by go_num, HNX⟩
          | zero =>
            obtain rfl : z = -1 := by omega
            have hfg : ∀ i, i < m2 → f i = h i := turned_one (HO.out.own hTw.pa).1 (HO.out.own hTw.qa).1 HTF.out hTl (by simpa using hTu)
            have HCG := hid (classesF_congr hfg)
            have HCN := hid (cntF_congr hfg)
            have HTw := hid hTw
            clear hfg hTw hTl hPQ hTu hT hz
            go_wp2_with fail
            refine (HO.out.classes wr p m2 f S HTw.out.pa).mono ?_
            rintro e w7 ⟨v7, rfl, S7, a7, c7, rfl, hI7, hP7, hE7, hK7⟩
            obtain ⟨S8, hT8⟩ := HTw.out.left HO.out ⟨S7, hP7, hE7, hK7⟩ h00
            have HI7 := hid hI7
            have HT8 := hid hT8
            have HTl := hid (HO.out.own HTw.out.qa).2.2
            have CQ : Hid (Calls Try.prog 20 #[.pointer (some q)] w7 fun e w' => ∃ v, e = .returned v ∧ PRows PA T w7 w' q m2 h v) := HO.out.classes w7 q m2 h T hT8.qa
            have HBD : Hid ((classesF m2 f).length ≤ 1000000 ∧ ∀ L ∈ classesF m2 f, L.length ≤ 1000000) := by
              unfold classesF
              refine ⟨by rw [List.length_map]; have := reps_len m2 f; omega, fun L hL => ?_⟩
              obtain ⟨i, _, rfl⟩ := List.mem_map.1 hL
              have := class_len m2 f i
              omega
            clear hI7 hP7 hE7 hK7 hT8
            go_wp2_with fail
            refine CQ.out.mono ?_
            rintro e w8 ⟨v8, rfl, T8, a8, c8, rfl, hI8, hP8, hE8, hK8⟩
            obtain ⟨T9, hT9⟩ := HT8.out.right HO.out ⟨T8, hP8, hE8, hK8⟩ h00
            have hI7' := HI7.out.kept hK8 (fun k hA _ e => by have := HTl.out k e; omega)
            rw [← HCG.out] at hI8
            rw [← HCG.out]
            have CR := hid (sameRows_any a7 a8 c7 c8 (classesF m2 f) (classesF m2 f) true w8 HBD.out.1 HBD.out.2 hI7'.at hI8.at ⟨fun _ => rfl, fun _ => rfl⟩)
            have HT9 := hid hT9
            clear hI8 hP8 hE8 hK8 hT9 hI7' CQ HI7 HT8 HTl
            go_wp2_with fail
            refine CR.out.mono ?_
            rintro e w9 ⟨rfl, hb9⟩
            have HT10 : Hid (PPr PA w w9 b0 p q m2 f h S8 T9) := by
              have H := HT9.out
              exact ⟨HO.out.keep H.pa (KeptBut.of_whole (fun _ => False) hb9) (fun _ _ e => e), HO.out.keep H.qa (KeptBut.of_whole (fun _ => False) hb9) (fun _ _ e => e), H.sep, H.geS, H.geT, H.bel.trans (hb9.mono (Nat.le_trans h00 H.bel.size))⟩
            obtain ⟨c, hc⟩ := ex_eq (cntF f m2)
            have C1 : Hid (Calls Try.prog 17 #[.pointer (some p)] w9 fun e w' => e = .returned (.int .i64 c) ∧ PNext PA S8 w9 w' p m2 f) := by
              show Calls _ _ _ _ _
              rw [hc]; exact HO.out.count w9 p m2 f S8 HT10.out.pa
            have C2 : Hid (∀ W T, PA W q m2 h T → Calls Try.prog 17 #[.pointer (some q)] W fun e w' => e = .returned (.int .i64 c) ∧ PNext PA T W w' q m2 h) := fun W T hW => by
              rw [hc, HCN.out]; exact HO.out.count W q m2 h T hW
            clear hb9 hc HT9 CR HBD
            go_wp2_with fail
            refine C1.out.mono ?_
            rintro e w10 ⟨rfl, hN10⟩
            obtain ⟨S10, hT10⟩ := HT10.out.left HO.out hN10 h00
            have HT11 := hid hT10
            clear hN10 hT10 C1
            go_wp2_with fail
            refine (C2.out w10 T9 HT11.out.qa).mono ?_
            rintro e w11 ⟨rfl, hN11⟩
            obtain ⟨T11, hT11⟩ := HT11.out.right HO.out hN11 h00
            have HB11 := hid hT11.bel
            clear hN11 hT11 C2
            go_wp2
            go_ret
            exact ⟨rfl, by rw [← HB0.out]; exact HB11.out⟩
end Go.Proofs.Ythakjmfjbibbjaa
