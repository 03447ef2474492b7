/-
  Contracts of the library at this program, laid by the tool, in plain words: slices.SortFunc at rows of numbers, slices.Sort, Index, Contains, Min, Reverse, Clone, Compact, ContainsFunc at numbers, math/bits.Mul.
  graph.place: where an edge stands among rising ones, or would stand, and whether it does.
  slices.Clone, slices.Grow at nil, slices.Concat, at edges: walked.
  graph.Add, graph.Without: one edge more, one edge less.
  graph.Add: one edge more.
  graph.eachOnce: edges in order, each once: slices.SortFunc by its contract, slices.Compact walked.
  graph.Normal: the edges that were told, in order, each once.
-/
import Derived.Shelf.SlSortCmp.Whole1
import Derived.Shelf.SlSortCmp.NoneTotal
import Derived.Shelf.Sort.Plain
import Derived.Shelf.Bits.Mul64
import Derived.Shelf.Slices.Turned
import Derived.Shelf.Slices.Reverse
import Derived.Shelf.Slices.Clone
import Derived.Shelf.Slices.CompactI
import Derived.Shelf.SlicesE.IndexFunc
import Derived.Shelf.Slices.In.SortNone
import Derived.Test.YtccbheijfnodjaaProg
import Derived.Test.YtccbheijfnodjaaB01
import Derived.BigQuiet
import Derived.Shelf.SlSortCmp.QuietGrown
import Derived.Lib.AppendZeros
import Derived.Lib.SliceRun
import Derived.Laws.AppendOwnNone
import Derived.Deep.DeepCutAuto
import Derived.Deep.RegionHeld3
import Derived.Lib.Walk
import Derived.Deep.LoopGhost
namespace Go.Proofs
open Go.Shelf
def Try.sortE_ren : Go.Shelf.Ren := ⟨fun | 6 => 71 | 15 => 82 | 14 => 81 | 28 => 95 | 29 => 96 | 20 => 87 | 21 => 88 | 22 => 89 | 23 => 90 | 24 => 91 | 25 => 92 | 26 => 93 | 27 => 94 | 46 => 106 | 47 => 107 | 48 => 108 | 49 => 109 | 50 => 110 | 57 => 114 | n => n, fun | 22 => 36 | 24 => 25 | 25 => 88 | 3 => 3 | 39 => 90 | 0 => 0 | 53 => 96 | 55 => 99 | 4 => 4 | 46 => 105 | 45 => 104 | 50 => 109 | 5 => 5 | 9 => 9 | 66 => 118 | 70 => 122 | 76 => 126 | 77 => 127 | n => n, fun | n => n⟩
theorem Try.sortE : Go.Proofs.SlLaysF.n6 Try.prog Try.sortE_ren := {
  mixed := by kernel_rfl
  f6 := ⟨Try.f71.name, by decide, Try.func71.trans (congrArg some (by kernel_rfl))⟩
  f14 := ⟨Try.f81.name, by decide, Try.func81.trans (congrArg some (by kernel_rfl))⟩
  f15 := Try.func82.trans (congrArg some (by kernel_rfl))
  f20 := ⟨Try.f87.name, by decide, Try.func87.trans (congrArg some (by kernel_rfl))⟩
  f21 := ⟨Try.f88.name, by decide, Try.func88.trans (congrArg some (by kernel_rfl))⟩
  f22 := ⟨Try.f89.name, by decide, Try.func89.trans (congrArg some (by kernel_rfl))⟩
  f23 := ⟨Try.f90.name, by decide, Try.func90.trans (congrArg some (by kernel_rfl))⟩
  f24 := ⟨Try.f91.name, by decide, Try.func91.trans (congrArg some (by kernel_rfl))⟩
  f25 := ⟨Try.f92.name, by decide, Try.func92.trans (congrArg some (by kernel_rfl))⟩
  f26 := ⟨Try.f93.name, by decide, Try.func93.trans (congrArg some (by kernel_rfl))⟩
  f27 := ⟨Try.f94.name, by decide, Try.func94.trans (congrArg some (by kernel_rfl))⟩
  f28 := Try.func95.trans (congrArg some (by kernel_rfl))
  f29 := Try.func96.trans (congrArg some (by kernel_rfl))
  f46 := ⟨Try.f106.name, by decide, Try.func106.trans (congrArg some (by kernel_rfl))⟩
  f47 := Try.func107.trans (congrArg some (by kernel_rfl))
  f48 := Try.func108.trans (congrArg some (by kernel_rfl))
  f49 := ⟨Try.f109.name, by decide, Try.func109.trans (congrArg some (by kernel_rfl))⟩
  f50 := ⟨Try.f110.name, by decide, Try.func110.trans (congrArg some (by kernel_rfl))⟩
  f57 := ⟨Try.f114.name, by decide, Try.func114.trans (congrArg some (by kernel_rfl))⟩
  t0 := Try.underlying0
  a0 := Try.isAgg0
  z0 := Try.sizeOf0
  v0 := Try.zeroValue0
  t3 := Try.underlying3
  a3 := Try.isAgg3
  z3 := Try.sizeOf3
  v3 := Try.zeroValue3
  t4 := Try.underlying4
  a4 := Try.isAgg4
  z4 := Try.sizeOf4
  v4 := Try.zeroValue4
  t5 := Try.underlying5
  a5 := Try.isAgg5
  z5 := Try.sizeOf5
  v5 := Try.zeroValue5
  t9 := Try.underlying9
  a9 := Try.isAgg9
  z9 := Try.sizeOf9
  v9 := Try.zeroValue9
  t22 := Try.underlying36
  a22 := Try.isAgg36
  z22 := Try.sizeOf36
  v22 := Try.zeroValue36
  a24 := Try.isAgg25
  z24 := Try.sizeOf25
  t25 := Try.underlying88
  a25 := Try.isAgg88
  z25 := Try.sizeOf88
  v25 := Try.zeroValue88
  t39 := Try.underlying90
  a39 := Try.isAgg90
  z39 := Try.sizeOf90
  v39 := Try.zeroValue90
  t45 := Try.underlying104
  a45 := Try.isAgg104
  z45 := Try.sizeOf104
  v45 := Try.zeroValue104
  t46 := Try.underlying105
  a46 := Try.isAgg105
  z46 := Try.sizeOf105
  v46 := Try.zeroValue105
  t50 := Try.underlying109
  a50 := Try.isAgg109
  z50 := Try.sizeOf109
  v50 := Try.zeroValue109
  t53 := Try.underlying96
  a53 := Try.isAgg96
  z53 := Try.sizeOf96
  v53 := Try.zeroValue96
  t55 := Try.underlying99
  a55 := Try.isAgg99
  z55 := Try.sizeOf99
  v55 := Try.zeroValue99
  t66 := Try.underlying118
  a66 := Try.isAgg118
  z66 := Try.sizeOf118
  v66 := Try.zeroValue118
  t70 := Try.underlying122
  a70 := Try.isAgg122
  z70 := Try.sizeOf122
  v70 := Try.zeroValue122
  t76 := Try.underlying126
  a76 := Try.isAgg126
  z76 := Try.sizeOf126
  v76 := Try.zeroValue126
  t77 := Try.underlying127
  a77 := Try.isAgg127
  z77 := Try.sizeOf127
  v77 := Try.zeroValue127 }
def Try.sortI_ren : Go.Shelf.Ren := ⟨fun | 189 => 77 | 125 => 82 | 257 => 86 | 128 => 95 | 129 => 96 | 294 => 97 | 295 => 98 | 296 => 99 | 297 => 100 | 298 => 101 | 299 => 102 | 216 => 103 | 300 => 104 | 301 => 105 | 328 => 111 | 329 => 107 | 330 => 108 | 331 => 112 | 332 => 113 | 215 => 83 | 343 => 115 | n => n, fun | 28 => 25 | 3 => 3 | 46 => 90 | 0 => 0 | 51 => 96 | 53 => 99 | 4 => 4 | 183 => 105 | 182 => 104 | 131 => 109 | 5 => 5 | 9 => 9 | 218 => 118 | 222 => 122 | 228 => 126 | 229 => 127 | n => n, fun | n => n⟩
theorem Try.sortI : Go.Proofs.Lays.n189 Try.prog Try.sortI_ren := {
  mixed := by kernel_rfl
  f125 := Try.func82.trans (congrArg some (by kernel_rfl))
  f128 := Try.func95.trans (congrArg some (by kernel_rfl))
  f129 := Try.func96.trans (congrArg some (by kernel_rfl))
  f189 := Try.func77.trans (congrArg some (by kernel_rfl))
  f215 := Try.func83.trans (congrArg some (by kernel_rfl))
  f216 := Try.func103.trans (congrArg some (by kernel_rfl))
  f257 := Try.func86.trans (congrArg some (by kernel_rfl))
  f294 := Try.func97.trans (congrArg some (by kernel_rfl))
  f295 := Try.func98.trans (congrArg some (by kernel_rfl))
  f296 := Try.func99.trans (congrArg some (by kernel_rfl))
  f297 := Try.func100.trans (congrArg some (by kernel_rfl))
  f298 := Try.func101.trans (congrArg some (by kernel_rfl))
  f299 := Try.func102.trans (congrArg some (by kernel_rfl))
  f300 := Try.func104.trans (congrArg some (by kernel_rfl))
  f301 := Try.func105.trans (congrArg some (by kernel_rfl))
  f328 := Try.func111.trans (congrArg some (by kernel_rfl))
  f329 := Try.func107.trans (congrArg some (by kernel_rfl))
  f330 := Try.func108.trans (congrArg some (by kernel_rfl))
  f331 := Try.func112.trans (congrArg some (by kernel_rfl))
  f332 := Try.func113.trans (congrArg some (by kernel_rfl))
  f343 := Try.func115.trans (congrArg some (by kernel_rfl))
  t0 := Try.underlying0
  a0 := Try.isAgg0
  z0 := Try.sizeOf0
  v0 := Try.zeroValue0
  t3 := Try.underlying3
  a3 := Try.isAgg3
  z3 := Try.sizeOf3
  v3 := Try.zeroValue3
  t4 := Try.underlying4
  a4 := Try.isAgg4
  z4 := Try.sizeOf4
  v4 := Try.zeroValue4
  t5 := Try.underlying5
  a5 := Try.isAgg5
  z5 := Try.sizeOf5
  v5 := Try.zeroValue5
  t9 := Try.underlying9
  a9 := Try.isAgg9
  z9 := Try.sizeOf9
  v9 := Try.zeroValue9
  t28 := Try.underlying25
  a28 := Try.isAgg25
  z28 := Try.sizeOf25
  v28 := Try.zeroValue25
  t46 := Try.underlying90
  a46 := Try.isAgg90
  z46 := Try.sizeOf90
  v46 := Try.zeroValue90
  t51 := Try.underlying96
  a51 := Try.isAgg96
  z51 := Try.sizeOf96
  v51 := Try.zeroValue96
  t53 := Try.underlying99
  a53 := Try.isAgg99
  z53 := Try.sizeOf99
  v53 := Try.zeroValue99
  t131 := Try.underlying109
  a131 := Try.isAgg109
  z131 := Try.sizeOf109
  v131 := Try.zeroValue109
  t182 := Try.underlying104
  a182 := Try.isAgg104
  z182 := Try.sizeOf104
  v182 := Try.zeroValue104
  t183 := Try.underlying105
  a183 := Try.isAgg105
  z183 := Try.sizeOf105
  v183 := Try.zeroValue105
  t218 := Try.underlying118
  a218 := Try.isAgg118
  z218 := Try.sizeOf118
  v218 := Try.zeroValue118
  t222 := Try.underlying122
  a222 := Try.isAgg122
  z222 := Try.sizeOf122
  v222 := Try.zeroValue122
  t228 := Try.underlying126
  a228 := Try.isAgg126
  z228 := Try.sizeOf126
  v228 := Try.zeroValue126
  t229 := Try.underlying127
  a229 := Try.isAgg127
  z229 := Try.sizeOf127
  v229 := Try.zeroValue127 }
def Try.mul_ren : Go.Shelf.Ren := ⟨fun | 212 => 76 | 263 => 84 | 264 => 85 | n => n, fun | 46 => 90 | 51 => 96 | 146 => 97 | 53 => 99 | 148 => 100 | n => n, fun | n => n⟩
theorem Try.mul : Go.Proofs.Lays.n212 Try.prog Try.mul_ren := {
  mixed := by kernel_rfl
  f212 := Try.func76.trans (congrArg some (by kernel_rfl))
  f263 := Try.func84.trans (congrArg some (by kernel_rfl))
  f264 := Try.func85.trans (congrArg some (by kernel_rfl))
  t46 := Try.underlying90
  a46 := Try.isAgg90
  z46 := Try.sizeOf90
  v46 := Try.zeroValue90
  t51 := Try.underlying96
  a51 := Try.isAgg96
  z51 := Try.sizeOf96
  v51 := Try.zeroValue96
  t53 := Try.underlying99
  a53 := Try.isAgg99
  z53 := Try.sizeOf99
  v53 := Try.zeroValue99
  t146 := Try.underlying97
  a146 := Try.isAgg97
  z146 := Try.sizeOf97
  v146 := Try.zeroValue97
  t148 := Try.underlying100
  a148 := Try.isAgg100
  z148 := Try.sizeOf100
  v148 := Try.zeroValue100 }
def Try.index_ren : Go.Shelf.Ren := ⟨fun | 108 => 46 | n => n, fun | 28 => 25 | 3 => 3 | 0 => 0 | 4 => 4 | n => n, fun | n => n⟩
theorem Try.index : Go.Proofs.Lays.n108 Try.prog Try.index_ren := {
  mixed := by kernel_rfl
  f108 := Try.func46.trans (congrArg some (by kernel_rfl))
  t0 := Try.underlying0
  a0 := Try.isAgg0
  z0 := Try.sizeOf0
  v0 := Try.zeroValue0
  t3 := Try.underlying3
  a3 := Try.isAgg3
  z3 := Try.sizeOf3
  v3 := Try.zeroValue3
  t4 := Try.underlying4
  a4 := Try.isAgg4
  z4 := Try.sizeOf4
  v4 := Try.zeroValue4
  t28 := Try.underlying25
  a28 := Try.isAgg25
  z28 := Try.sizeOf25
  v28 := Try.zeroValue25 }
def Try.contains_ren : Go.Shelf.Ren := ⟨fun | 107 => 34 | 108 => 46 | n => n, fun | 28 => 25 | 3 => 3 | 4 => 4 | 0 => 0 | n => n, fun | n => n⟩
theorem Try.contains : Go.Proofs.Lays.n107 Try.prog Try.contains_ren := {
  mixed := by kernel_rfl
  f107 := Try.func34.trans (congrArg some (by kernel_rfl))
  f108 := Try.func46.trans (congrArg some (by kernel_rfl))
  t0 := Try.underlying0
  a0 := Try.isAgg0
  z0 := Try.sizeOf0
  v0 := Try.zeroValue0
  t3 := Try.underlying3
  a3 := Try.isAgg3
  z3 := Try.sizeOf3
  v3 := Try.zeroValue3
  t4 := Try.underlying4
  a4 := Try.isAgg4
  z4 := Try.sizeOf4
  v4 := Try.zeroValue4
  t28 := Try.underlying25
  a28 := Try.isAgg25
  z28 := Try.sizeOf25
  v28 := Try.zeroValue25 }
def Try.min_ren : Go.Shelf.Ren := ⟨fun | 114 => 47 | n => n, fun | 28 => 25 | 3 => 3 | 4 => 4 | 9 => 9 | 20 => 20 | 0 => 0 | n => n, fun | n => n⟩
theorem Try.min : Go.Proofs.Lays.n114 Try.prog Try.min_ren := {
  mixed := by kernel_rfl
  f114 := Try.func47.trans (congrArg some (by kernel_rfl))
  t0 := Try.underlying0
  a0 := Try.isAgg0
  z0 := Try.sizeOf0
  v0 := Try.zeroValue0
  t3 := Try.underlying3
  a3 := Try.isAgg3
  z3 := Try.sizeOf3
  v3 := Try.zeroValue3
  t4 := Try.underlying4
  a4 := Try.isAgg4
  z4 := Try.sizeOf4
  v4 := Try.zeroValue4
  t9 := Try.underlying9
  a9 := Try.isAgg9
  z9 := Try.sizeOf9
  v9 := Try.zeroValue9
  t20 := Try.underlying20
  a20 := Try.isAgg20
  z20 := Try.sizeOf20
  v20 := Try.zeroValue20
  t28 := Try.underlying25
  a28 := Try.isAgg25
  z28 := Try.sizeOf25
  v28 := Try.zeroValue25 }
def Try.reverse_ren : Go.Shelf.Ren := ⟨fun | 112 => 48 | n => n, fun | 28 => 25 | 3 => 3 | 4 => 4 | 0 => 0 | n => n, fun | n => n⟩
theorem Try.reverse : Go.Proofs.Lays.n112 Try.prog Try.reverse_ren := {
  mixed := by kernel_rfl
  f112 := Try.func48.trans (congrArg some (by kernel_rfl))
  t0 := Try.underlying0
  a0 := Try.isAgg0
  z0 := Try.sizeOf0
  v0 := Try.zeroValue0
  t3 := Try.underlying3
  a3 := Try.isAgg3
  z3 := Try.sizeOf3
  v3 := Try.zeroValue3
  t4 := Try.underlying4
  a4 := Try.isAgg4
  z4 := Try.sizeOf4
  v4 := Try.zeroValue4
  t28 := Try.underlying25
  a28 := Try.isAgg25
  z28 := Try.sizeOf25
  v28 := Try.zeroValue25 }
def Try.clone_ren : Go.Shelf.Ren := ⟨fun | 15 => 45 | n => n, fun | 22 => 25 | 3 => 3 | 4 => 4 | n => n, fun | n => n⟩
theorem Try.clone : Go.Proofs.Lays2.n15 Try.prog Try.clone_ren := {
  mixed := by kernel_rfl
  f15 := Try.func45.trans (congrArg some (by kernel_rfl))
  t3 := Try.underlying3
  a3 := Try.isAgg3
  z3 := Try.sizeOf3
  v3 := Try.zeroValue3
  t4 := Try.underlying4
  a4 := Try.isAgg4
  z4 := Try.sizeOf4
  v4 := Try.zeroValue4
  t22 := Try.underlying25
  a22 := Try.isAgg25
  z22 := Try.sizeOf25
  v22 := Try.zeroValue25
  i3 := by kernel_rfl }
def Try.compact_ren : Go.Shelf.Ren := ⟨fun | 20 => 64 | n => n, fun | 22 => 25 | 3 => 3 | 4 => 4 | 0 => 0 | n => n, fun | n => n⟩
theorem Try.compact : Go.Proofs.Lays2.n20 Try.prog Try.compact_ren := {
  mixed := by kernel_rfl
  f20 := Try.func64.trans (congrArg some (by kernel_rfl))
  t0 := Try.underlying0
  a0 := Try.isAgg0
  z0 := Try.sizeOf0
  v0 := Try.zeroValue0
  t3 := Try.underlying3
  a3 := Try.isAgg3
  z3 := Try.sizeOf3
  v3 := Try.zeroValue3
  t4 := Try.underlying4
  a4 := Try.isAgg4
  z4 := Try.sizeOf4
  v4 := Try.zeroValue4
  t22 := Try.underlying25
  a22 := Try.isAgg25
  z22 := Try.sizeOf25
  v22 := Try.zeroValue25
  i3 := by kernel_rfl }
def Try.containsFunc_ren : Go.Shelf.Ren := ⟨fun | 8 => 38 | 6 => 59 | n => n, fun | 22 => 25 | 23 => 3 | 25 => 53 | 4 => 4 | 3 => 3 | 0 => 0 | n => n, fun | n => n⟩
theorem Try.containsFunc : Go.Proofs.SlLaysH.n8 Try.prog Try.containsFunc_ren := {
  mixed := by kernel_rfl
  f6 := ⟨Try.f59.name, by decide, Try.func59.trans (congrArg some (by kernel_rfl))⟩
  f8 := ⟨Try.f38.name, by decide, Try.func38.trans (congrArg some (by kernel_rfl))⟩
  t0 := Try.underlying0
  a0 := Try.isAgg0
  z0 := Try.sizeOf0
  v0 := Try.zeroValue0
  t3 := Try.underlying3
  a3 := Try.isAgg3
  z3 := Try.sizeOf3
  v3 := Try.zeroValue3
  t4 := Try.underlying4
  a4 := Try.isAgg4
  z4 := Try.sizeOf4
  v4 := Try.zeroValue4
  t22 := Try.underlying25
  a22 := Try.isAgg25
  z22 := Try.sizeOf25
  v22 := Try.zeroValue25
  a23 := Try.isAgg3
  z23 := Try.sizeOf3
  t25 := Try.underlying53
  a25 := Try.isAgg53
  z25 := Try.sizeOf53
  v25 := Try.zeroValue53 }
end Go.Proofs
namespace Go.Proofs.Ytccbheijfnodjaa
open Go.RowKit Go.Lib Go.Sort

/-- What place tells: how many edges stand ahead, and whether the edge is one of them. -/
structure PlaceAt (es : List (Int × Int)) (e : Int × Int) (at_ : Nat) (has : Bool) : Prop where
  le : at_ ≤ es.length
  ahead : ∀ i (h : i < es.length), i < at_ → ltE es[i] e = true
  behind : ∀ i (h : i < es.length), at_ ≤ i → ltE es[i] e = false
  has_iff : has = true ↔ ∃ h : at_ < es.length, es[at_] = e
theorem PlaceAt.mem {es : List (Int × Int)} {e : Int × Int} {at_ : Nat} {has : Bool} (h : PlaceAt es e at_ has) (hr : Rises es) : has = true ↔ e ∈ es := by
  rw [h.has_iff]
  constructor
  · rintro ⟨h1, h2⟩; rw [← h2]; exact List.getElem_mem _
  · intro he
    obtain ⟨i, hi, rfl⟩ := List.getElem_of_mem he
    have h1 : ¬ i < at_ := fun hlt => by have := h.ahead i hi hlt; rw [ltE_irrefl] at this; exact absurd this (by simp)
    have h2 : ¬ at_ < i := fun hlt => by
      have h3 := rises_at hr hlt hi
      rw [h.behind at_ (by omega) (Nat.le_refl _)] at h3
      exact absurd h3 (by simp)
    obtain rfl : at_ = i := by omega
    exact ⟨hi, rfl⟩

end Go.Proofs.Ytccbheijfnodjaa
namespace Go.Proofs.Ytccbheijfnodjaa
open Go.RowKit Go.Lib

theorem EAt.news {w : World} {ad : Addr} {es : List (Int × Int)} (h : EAt w (some ad) es) : ∀ j u, (cellsE es)[j]? = some u → w.cell? (ad.add j) = some u := by
  intro j u hu
  have hj : j < es.length * 2 := by rw [← cellsE_len]; exact (List.getElem?_eq_some_iff.1 hu).1
  obtain ⟨g, off, e, _, _⟩ := h (by omega)
  obtain rfl := Option.some.inj e
  rw [add_at]
  exact h.cells j u hu
theorem own_empty {w : World} (o : Obj) (ho : o = .cells #[] 46 (0, 0)) : (w.alloc o).ownsRow w.heap.size 46 2 (.slice (some ⟨w.heap.size, 0, none⟩) 0 0) 0 [] := by
  subst ho
  exact ⟨rfl, Or.inr ⟨w.heap.size, 0, #[], rfl, Nat.le_refl _, heap_alloc_new _ _, Nat.le_refl _, Nat.zero_le _, rfl, rfl⟩⟩

theorem own_ge {w : World} {base : Nat} {e : TypeId} {size n cap : Nat} {a : Option Addr} {xs : List Value} (h : w.ownsRow base e size (.slice a n cap) n xs) : ∀ g off, a = some ⟨g, off, none⟩ → base ≤ g := fun g off ha => by
  rcases h.2 with ⟨hv, _⟩ | ⟨g', cap', cur, hv, hb, _⟩
  · simp only [Value.slice.injEq] at hv
    rw [hv.1] at ha
    cases ha
  · simp only [Value.slice.injEq] at hv
    rw [hv.1] at ha
    simp only [Option.some.injEq, Addr.mk.injEq, and_true] at ha
    omega

end Go.Proofs.Ytccbheijfnodjaa
namespace Go.Proofs.Ytccbheijfnodjaa
open Go.RowKit Go.Lib

theorem new_two' (w : World) (o1 o2 : Obj) : ∃ W0, W0 = (w.alloc o1).alloc o2 ∧ W0.heap.size = w.heap.size + 1 + 1 ∧ W0.heap[w.heap.size]? = some o1 ∧ W0.heap[w.heap.size + 1]? = some o2 ∧ Below w.heap.size w W0 := by
  have s1 : (w.alloc o1).heap.size = w.heap.size + 1 := by simp
  refine ⟨_, rfl, by simp, ?_, ?_, ((Below.refl _ _).alloc (Nat.le_refl _) _).alloc (by omega) _⟩
  · rw [Below.heap_alloc _ _ _ (by omega)]; exact heap_alloc_new _ _
  · rw [← s1]; exact heap_alloc_new _ _
theorem eat_take {w : World} {a : Option Addr} {es : List (Int × Int)} (h : EAt w a es) (k : Nat) : EAt w a (es.take k) := fun h0 => by
  rw [List.length_take] at h0
  obtain ⟨g, off, ha, hg, hc⟩ := h (by omega)
  refine ⟨g, off, ha, hg, fun j hj => ?_⟩
  rw [List.length_take] at hj
  rw [List.getElem_take]
  exact hc j (by omega)
end Go.Proofs.Ytccbheijfnodjaa
namespace Go.Proofs.Ytccbheijfnodjaa
open Go.RowKit Go.Lib

/-- What a call that keeps what was there leaves of Add's own variables. -/
structure Kept (w V : World) (n : Int) (sv : Value) : Prop where
  n0 : V.cell? ⟨w.heap.size, 0, none⟩ = some (.int .i64 n)
  e0 : V.cell? ⟨w.heap.size, 1, none⟩ = some sv
  box : V.heap[w.heap.size + 1]? = some (.cells #[.int .i64 0, .slice none 0 0] 24)
  below : Below w.heap.size w V
  size : w.heap.size + 1 + 1 ≤ V.heap.size
theorem Kept.on {w V V' : World} {n : Int} {sv : Value} (h : Kept w V n sv) (hb : Below V.heap.size V V') : Kept w V' n sv := by
  have hs := h.size
  exact ⟨(hb.cell (p := ⟨w.heap.size, 0, none⟩) (by simp; omega)).trans h.n0, (hb.cell (p := ⟨w.heap.size, 1, none⟩) (by simp; omega)).trans h.e0, (hb.block _ (by omega)).trans h.box, h.below.trans (hb.mono h.below.size), Nat.le_trans hs hb.size⟩
end Go.Proofs.Ytccbheijfnodjaa
namespace Go.Proofs.Ytccbheijfnodjaa
open Go.RowKit Go.Lib Go.Sort

/-- The first n of a row that is told place by place. -/
def lst (c : Nat → Int × Int) (n : Nat) : List (Int × Int) := (List.range n).map c
theorem lst_len (c : Nat → Int × Int) (n : Nat) : (lst c n).length = n := by simp [lst]
/-- A row of edges that may be written, place by place. -/
def Row2 (w : World) (g n : Nat) (c : Nat → Int × Int) : Prop := g < w.heap.size ∧ ∀ j, j < n → (w.cell? ⟨g, j * 2, none⟩ = some (.int .i64 (c j).1) ∧ w.frozen? ⟨g, j * 2, none⟩ = false) ∧ (w.cell? ⟨g, j * 2 + 1, none⟩ = some (.int .i64 (c j).2) ∧ w.frozen? ⟨g, j * 2 + 1, none⟩ = false)
theorem Row2.drewN {w : World} {g n : Nat} {c : Nat → Int × Int} (h : Row2 w g n c) (q : Nat) : Row2 (w.drewN q) g n c := h
theorem cell_set_other {w : World} {p q : Addr} {v : Value} (h : q ≠ p) : (w.setCell p v).cell? q = w.cell? q := World.cell?_setCell_other _ _ _ _ (Ne.symm h)
theorem Row2.put {w : World} {g n : Nat} {c : Nat → Int × Int} (h : Row2 w g n c) {i : Nat} (hi : i < n) (x : Int × Int) :
    Row2 ((w.setCell ⟨g, i * 2, none⟩ (.int .i64 x.1)).setCell ⟨g, i * 2 + 1, none⟩ (.int .i64 x.2)) g n (fun j => if j = i then x else c j) := by
  refine ⟨by simpa using h.1, fun j hj => ?_⟩
  obtain ⟨⟨a, fa⟩, b, fb⟩ := h.2 j hj
  obtain ⟨⟨ai, fai⟩, bi, fbi⟩ := h.2 i hi
  simp only [World.frozen?_setCell]
  refine ⟨⟨?_, fa⟩, ?_, fb⟩
  · rw [cell_set_other (by simp <;> omega)]
    by_cases e : j = i
    · subst e
      rw [if_pos rfl]
      exact World.cell?_setCell_same' _ _ _ (by rw [a]; rfl)
    · rw [if_neg e, cell_set_other (by simp <;> omega)]
      exact a
  · by_cases e : j = i
    · subst e
      rw [if_pos rfl]
      exact World.cell?_setCell_same' _ _ _ (by rw [cell_set_other (by simp <;> omega), b]; rfl)
    · rw [if_neg e, cell_set_other (by simp <;> omega), cell_set_other (by simp <;> omega)]
      exact b
def encE (x : Int × Int) : List Value := [.int .i64 x.1, .int .i64 x.2]
theorem Row2.holds {w : World} {g n : Nat} {c : Nat → Int × Int} (h : Row2 w g n c) : HoldsK encE 2 w g 0 (lst c n).toArray := by
  intro j hj
  have hj' : j < n * 2 := by rw [size_flatK] at hj; simpa [lst_len] using hj
  rw [get_flatK _ _ _ _ (by simpa [lst_len] using hj')]
  have hn : j / 2 < (lst c n).length := by rw [lst_len]; omega
  have e : (lst c n).toArray[j / 2]! = c (j / 2) := by
    rw [getElem!_pos _ _ (by simpa using hn)]
    simp [lst]
  rw [e, Nat.zero_add]
  have hh := h.2 (j / 2) (by omega)
  rcases Nat.mod_two_eq_zero_or_one j with h0 | h0
  · have h2 : j / 2 * 2 = j := by omega
    rw [h0]
    rw [h2] at hh
    exact hh.1
  · have h2 : j / 2 * 2 + 1 = j := by omega
    rw [h0]
    rw [h2] at hh
    exact hh.2
end Go.Proofs.Ytccbheijfnodjaa
namespace Go.Proofs.Ytccbheijfnodjaa
open Go.RowKit Go.Lib

theorem two_cells {w : World} {b : Nat} {x y : Value} {T : TypeId} {fr : Nat × Nat} (h : w.heap[b]? = some (.cells #[x, y] T fr)) : w.cell? ⟨b, 0, none⟩ = some x ∧ w.cell? ⟨b, 1, none⟩ = some y := ⟨cell_of_heap h 0, cell_of_heap h 1⟩
theorem cells_two {w : World} {b : Nat} {x y : Value} {T : TypeId} {fr : Nat × Nat} (h : w.heap[b]? = some (.cells #[x, y] T fr)) : ∀ j v, [x, y][j]? = some v → w.cell? ((⟨b, 0, none⟩ : Addr).add j) = some v := by
  intro j v hj
  rw [add_at, Nat.zero_add, cell_of_heap h]
  simpa using hj
theorem allIn_snoc {n : Int} {l : List (Int × Int)} {e : Int × Int} (h : AllIn n l) (he : (0 ≤ e.1 ∧ e.1 < n) ∧ (0 ≤ e.2 ∧ e.2 < n)) : AllIn n (l ++ [e]) := by
  intro x hx
  rcases List.mem_append.1 hx with hx | hx
  · exact h x hx
  · simp at hx; subst hx; exact he
theorem allIn_take {n : Int} {l : List (Int × Int)} {k : Nat} (hk : k < l.length) (h : AllIn n (l.take k)) (he : (0 ≤ l[k].1 ∧ l[k].1 < n) ∧ (0 ≤ l[k].2 ∧ l[k].2 < n)) : AllIn n (l.take (k + 1)) := by
  rw [List.take_succ_eq_append_getElem hk]
  exact allIn_snoc h he

/-- What Normal answers. -/
def NormE (n : Int) (l : List (Int × Int)) (er : Int) (es : List (Int × Int)) : Prop :=
  (n < 0 ∧ er = 1 ∧ es = []) ∨ (1000 < n ∧ er = 5 ∧ es = []) ∨ ((0 ≤ n ∧ n ≤ 1000) ∧ ¬ AllIn n l ∧ er = 4 ∧ es = []) ∨
  ((0 ≤ n ∧ n ≤ 1000) ∧ AllIn n l ∧ er = 5 ∧ es = [] ∧ ∃ x, IsNorm l x ∧ 4000 < x.length) ∨ ((0 ≤ n ∧ n ≤ 1000) ∧ AllIn n l ∧ er = 0 ∧ IsNorm l es ∧ es.length ≤ 4000)
def nOf (n er : Int) : Int := if er = 0 then n else 0

end Go.Proofs.Ytccbheijfnodjaa
