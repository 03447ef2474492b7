/-
  Contracts of the library at this program, laid by the tool, in plain words: slices.SortFunc at rows, slices.Sort, Index, Contains, ContainsFunc at numbers, slices.Clone at edges, sort.Search, math/bits.Mul.
  graph.place: where an edge stands among rising ones, or would stand, and whether it does.
  slices.Clone, slices.Grow at nil, slices.Concat, at edges: walked.
  graph.Add, graph.Without: one edge more, one edge less.
  graph.Add: one edge more.
  graph.eachOnce: edges in order, each once: slices.SortFunc by its contract, slices.Compact walked.
  slices.Compact at edges, and graph.eachOnce: the edges of a row, rising, each once.
-/
import Derived.Shelf.SlSortCmp.Whole1
import Derived.Shelf.SlSortCmp.NoneTotal
import Derived.Shelf.SlSorted.Search
import Derived.Shelf.Sort.Plain
import Derived.Shelf.Bits.Mul64
import Derived.Shelf.Slices.Turned
import Derived.Shelf.SlicesE.Clone
import Derived.Shelf.SlicesE.IndexFunc
import Derived.Shelf.Slices.In.SortNone
import Derived.Test.YtplhpinaadgkkaaGreatProg
import Derived.Test.YtplhpinaadgkkaaGreatB01
import Derived.BigQuiet
import Derived.Shelf.SlSortCmp.QuietGrown
import Derived.Lib.AppendZeros
import Derived.Lib.SliceRun
import Derived.Laws.AppendOwnNone
import Derived.Deep.DeepCutAuto
import Derived.Deep.RegionHeld3
import Derived.Lib.Walk
import Derived.Deep.LoopGhost
namespace Go.Proofs
open Go.Shelf
def Tryz.sortR_ren : Go.Shelf.Ren := ⟨fun | 6 => 22 | 15 => 44 | 14 => 43 | 28 => 68 | 29 => 69 | 20 => 60 | 21 => 61 | 22 => 62 | 23 => 63 | 24 => 64 | 25 => 65 | 26 => 66 | 27 => 67 | 46 => 86 | 47 => 87 | 48 => 88 | 49 => 89 | 50 => 90 | 57 => 96 | n => n, fun | 22 => 31 | 24 => 33 | 25 => 58 | 3 => 3 | 39 => 80 | 0 => 0 | 53 => 102 | 55 => 104 | 4 => 4 | 46 => 95 | 45 => 94 | 50 => 99 | 5 => 5 | 9 => 9 | 66 => 115 | 70 => 119 | 76 => 126 | 77 => 127 | n => n, fun | n => n⟩
theorem Tryz.sortR : Go.Proofs.SlLaysF.n6 Tryz.prog Tryz.sortR_ren := {
  mixed := by kernel_rfl
  f6 := ⟨Tryz.f22.name, by decide, Tryz.func22.trans (congrArg some (by kernel_rfl))⟩
  f14 := ⟨Tryz.f43.name, by decide, Tryz.func43.trans (congrArg some (by kernel_rfl))⟩
  f15 := Tryz.func44.trans (congrArg some (by kernel_rfl))
  f20 := ⟨Tryz.f60.name, by decide, Tryz.func60.trans (congrArg some (by kernel_rfl))⟩
  f21 := ⟨Tryz.f61.name, by decide, Tryz.func61.trans (congrArg some (by kernel_rfl))⟩
  f22 := ⟨Tryz.f62.name, by decide, Tryz.func62.trans (congrArg some (by kernel_rfl))⟩
  f23 := ⟨Tryz.f63.name, by decide, Tryz.func63.trans (congrArg some (by kernel_rfl))⟩
  f24 := ⟨Tryz.f64.name, by decide, Tryz.func64.trans (congrArg some (by kernel_rfl))⟩
  f25 := ⟨Tryz.f65.name, by decide, Tryz.func65.trans (congrArg some (by kernel_rfl))⟩
  f26 := ⟨Tryz.f66.name, by decide, Tryz.func66.trans (congrArg some (by kernel_rfl))⟩
  f27 := ⟨Tryz.f67.name, by decide, Tryz.func67.trans (congrArg some (by kernel_rfl))⟩
  f28 := Tryz.func68.trans (congrArg some (by kernel_rfl))
  f29 := Tryz.func69.trans (congrArg some (by kernel_rfl))
  f46 := ⟨Tryz.f86.name, by decide, Tryz.func86.trans (congrArg some (by kernel_rfl))⟩
  f47 := Tryz.func87.trans (congrArg some (by kernel_rfl))
  f48 := Tryz.func88.trans (congrArg some (by kernel_rfl))
  f49 := ⟨Tryz.f89.name, by decide, Tryz.func89.trans (congrArg some (by kernel_rfl))⟩
  f50 := ⟨Tryz.f90.name, by decide, Tryz.func90.trans (congrArg some (by kernel_rfl))⟩
  f57 := ⟨Tryz.f96.name, by decide, Tryz.func96.trans (congrArg some (by kernel_rfl))⟩
  t0 := Tryz.underlying0
  a0 := Tryz.isAgg0
  z0 := Tryz.sizeOf0
  v0 := Tryz.zeroValue0
  t3 := Tryz.underlying3
  a3 := Tryz.isAgg3
  z3 := Tryz.sizeOf3
  v3 := Tryz.zeroValue3
  t4 := Tryz.underlying4
  a4 := Tryz.isAgg4
  z4 := Tryz.sizeOf4
  v4 := Tryz.zeroValue4
  t5 := Tryz.underlying5
  a5 := Tryz.isAgg5
  z5 := Tryz.sizeOf5
  v5 := Tryz.zeroValue5
  t9 := Tryz.underlying9
  a9 := Tryz.isAgg9
  z9 := Tryz.sizeOf9
  v9 := Tryz.zeroValue9
  t22 := Tryz.underlying31
  a22 := Tryz.isAgg31
  z22 := Tryz.sizeOf31
  v22 := Tryz.zeroValue31
  a24 := Tryz.isAgg33
  z24 := Tryz.sizeOf33
  t25 := Tryz.underlying58
  a25 := Tryz.isAgg58
  z25 := Tryz.sizeOf58
  v25 := Tryz.zeroValue58
  t39 := Tryz.underlying80
  a39 := Tryz.isAgg80
  z39 := Tryz.sizeOf80
  v39 := Tryz.zeroValue80
  t45 := Tryz.underlying94
  a45 := Tryz.isAgg94
  z45 := Tryz.sizeOf94
  v45 := Tryz.zeroValue94
  t46 := Tryz.underlying95
  a46 := Tryz.isAgg95
  z46 := Tryz.sizeOf95
  v46 := Tryz.zeroValue95
  t50 := Tryz.underlying99
  a50 := Tryz.isAgg99
  z50 := Tryz.sizeOf99
  v50 := Tryz.zeroValue99
  t53 := Tryz.underlying102
  a53 := Tryz.isAgg102
  z53 := Tryz.sizeOf102
  v53 := Tryz.zeroValue102
  t55 := Tryz.underlying104
  a55 := Tryz.isAgg104
  z55 := Tryz.sizeOf104
  v55 := Tryz.zeroValue104
  t66 := Tryz.underlying115
  a66 := Tryz.isAgg115
  z66 := Tryz.sizeOf115
  v66 := Tryz.zeroValue115
  t70 := Tryz.underlying119
  a70 := Tryz.isAgg119
  z70 := Tryz.sizeOf119
  v70 := Tryz.zeroValue119
  t76 := Tryz.underlying126
  a76 := Tryz.isAgg126
  z76 := Tryz.sizeOf126
  v76 := Tryz.zeroValue126
  t77 := Tryz.underlying127
  a77 := Tryz.isAgg127
  z77 := Tryz.sizeOf127
  v77 := Tryz.zeroValue127 }
def Tryz.sortE_ren : Go.Shelf.Ren := ⟨fun | 6 => 74 | 15 => 44 | 14 => 92 | 28 => 68 | 29 => 69 | 20 => 99 | 21 => 100 | 22 => 101 | 23 => 102 | 24 => 103 | 25 => 104 | 26 => 105 | 27 => 106 | 46 => 108 | 47 => 87 | 48 => 88 | 49 => 109 | 50 => 110 | 57 => 111 | n => n, fun | 22 => 22 | 24 => 41 | 25 => 109 | 3 => 3 | 39 => 80 | 0 => 0 | 53 => 102 | 55 => 104 | 4 => 4 | 46 => 95 | 45 => 94 | 50 => 99 | 5 => 5 | 9 => 9 | 66 => 115 | 70 => 119 | 76 => 126 | 77 => 127 | n => n, fun | n => n⟩
theorem Tryz.sortE : Go.Proofs.SlLaysF0.n6 Tryz.prog Tryz.sortE_ren := {
  mixed := by kernel_rfl
  f6 := ⟨Tryz.f74.name, by decide, Tryz.func74.trans (congrArg some (by kernel_rfl))⟩
  f14 := ⟨Tryz.f92.name, by decide, Tryz.func92.trans (congrArg some (by kernel_rfl))⟩
  f15 := Tryz.func44.trans (congrArg some (by kernel_rfl))
  f20 := ⟨Tryz.f99.name, by decide, Tryz.func99.trans (congrArg some (by kernel_rfl))⟩
  f21 := ⟨Tryz.f100.name, by decide, Tryz.func100.trans (congrArg some (by kernel_rfl))⟩
  f22 := ⟨Tryz.f101.name, by decide, Tryz.func101.trans (congrArg some (by kernel_rfl))⟩
  f23 := ⟨Tryz.f102.name, by decide, Tryz.func102.trans (congrArg some (by kernel_rfl))⟩
  f24 := ⟨Tryz.f103.name, by decide, Tryz.func103.trans (congrArg some (by kernel_rfl))⟩
  f25 := ⟨Tryz.f104.name, by decide, Tryz.func104.trans (congrArg some (by kernel_rfl))⟩
  f26 := ⟨Tryz.f105.name, by decide, Tryz.func105.trans (congrArg some (by kernel_rfl))⟩
  f27 := ⟨Tryz.f106.name, by decide, Tryz.func106.trans (congrArg some (by kernel_rfl))⟩
  f28 := Tryz.func68.trans (congrArg some (by kernel_rfl))
  f29 := Tryz.func69.trans (congrArg some (by kernel_rfl))
  f46 := ⟨Tryz.f108.name, by decide, Tryz.func108.trans (congrArg some (by kernel_rfl))⟩
  f47 := Tryz.func87.trans (congrArg some (by kernel_rfl))
  f48 := Tryz.func88.trans (congrArg some (by kernel_rfl))
  f49 := ⟨Tryz.f109.name, by decide, Tryz.func109.trans (congrArg some (by kernel_rfl))⟩
  f50 := ⟨Tryz.f110.name, by decide, Tryz.func110.trans (congrArg some (by kernel_rfl))⟩
  f57 := ⟨Tryz.f111.name, by decide, Tryz.func111.trans (congrArg some (by kernel_rfl))⟩
  t0 := Tryz.underlying0
  a0 := Tryz.isAgg0
  z0 := Tryz.sizeOf0
  v0 := Tryz.zeroValue0
  t3 := Tryz.underlying3
  a3 := Tryz.isAgg3
  z3 := Tryz.sizeOf3
  v3 := Tryz.zeroValue3
  t4 := Tryz.underlying4
  a4 := Tryz.isAgg4
  z4 := Tryz.sizeOf4
  v4 := Tryz.zeroValue4
  t5 := Tryz.underlying5
  a5 := Tryz.isAgg5
  z5 := Tryz.sizeOf5
  v5 := Tryz.zeroValue5
  t9 := Tryz.underlying9
  a9 := Tryz.isAgg9
  z9 := Tryz.sizeOf9
  v9 := Tryz.zeroValue9
  t22 := Tryz.underlying22
  a22 := Tryz.isAgg22
  z22 := Tryz.sizeOf22
  v22 := Tryz.zeroValue22
  t25 := Tryz.underlying109
  a25 := Tryz.isAgg109
  z25 := Tryz.sizeOf109
  v25 := Tryz.zeroValue109
  t39 := Tryz.underlying80
  a39 := Tryz.isAgg80
  z39 := Tryz.sizeOf80
  v39 := Tryz.zeroValue80
  t45 := Tryz.underlying94
  a45 := Tryz.isAgg94
  z45 := Tryz.sizeOf94
  v45 := Tryz.zeroValue94
  t46 := Tryz.underlying95
  a46 := Tryz.isAgg95
  z46 := Tryz.sizeOf95
  v46 := Tryz.zeroValue95
  t50 := Tryz.underlying99
  a50 := Tryz.isAgg99
  z50 := Tryz.sizeOf99
  v50 := Tryz.zeroValue99
  t53 := Tryz.underlying102
  a53 := Tryz.isAgg102
  z53 := Tryz.sizeOf102
  v53 := Tryz.zeroValue102
  t55 := Tryz.underlying104
  a55 := Tryz.isAgg104
  z55 := Tryz.sizeOf104
  v55 := Tryz.zeroValue104
  t66 := Tryz.underlying115
  a66 := Tryz.isAgg115
  z66 := Tryz.sizeOf115
  v66 := Tryz.zeroValue115
  t70 := Tryz.underlying119
  a70 := Tryz.isAgg119
  z70 := Tryz.sizeOf119
  v70 := Tryz.zeroValue119
  t76 := Tryz.underlying126
  a76 := Tryz.isAgg126
  z76 := Tryz.sizeOf126
  v76 := Tryz.zeroValue126
  t77 := Tryz.underlying127
  a77 := Tryz.isAgg127
  z77 := Tryz.sizeOf127
  v77 := Tryz.zeroValue127 }
def Tryz.sortI_ren : Go.Shelf.Ren := ⟨fun | 189 => 42 | 125 => 44 | 257 => 59 | 128 => 68 | 129 => 69 | 294 => 77 | 295 => 78 | 296 => 79 | 297 => 80 | 298 => 81 | 299 => 82 | 216 => 83 | 300 => 84 | 301 => 85 | 328 => 93 | 329 => 87 | 330 => 88 | 331 => 94 | 332 => 95 | 215 => 58 | 343 => 107 | n => n, fun | 28 => 33 | 3 => 3 | 46 => 80 | 0 => 0 | 51 => 102 | 53 => 104 | 4 => 4 | 183 => 95 | 182 => 94 | 131 => 99 | 5 => 5 | 9 => 9 | 218 => 115 | 222 => 119 | 228 => 126 | 229 => 127 | n => n, fun | n => n⟩
theorem Tryz.sortI : Go.Proofs.Lays.n189 Tryz.prog Tryz.sortI_ren := {
  mixed := by kernel_rfl
  f125 := Tryz.func44.trans (congrArg some (by kernel_rfl))
  f128 := Tryz.func68.trans (congrArg some (by kernel_rfl))
  f129 := Tryz.func69.trans (congrArg some (by kernel_rfl))
  f189 := Tryz.func42.trans (congrArg some (by kernel_rfl))
  f215 := Tryz.func58.trans (congrArg some (by kernel_rfl))
  f216 := Tryz.func83.trans (congrArg some (by kernel_rfl))
  f257 := Tryz.func59.trans (congrArg some (by kernel_rfl))
  f294 := Tryz.func77.trans (congrArg some (by kernel_rfl))
  f295 := Tryz.func78.trans (congrArg some (by kernel_rfl))
  f296 := Tryz.func79.trans (congrArg some (by kernel_rfl))
  f297 := Tryz.func80.trans (congrArg some (by kernel_rfl))
  f298 := Tryz.func81.trans (congrArg some (by kernel_rfl))
  f299 := Tryz.func82.trans (congrArg some (by kernel_rfl))
  f300 := Tryz.func84.trans (congrArg some (by kernel_rfl))
  f301 := Tryz.func85.trans (congrArg some (by kernel_rfl))
  f328 := Tryz.func93.trans (congrArg some (by kernel_rfl))
  f329 := Tryz.func87.trans (congrArg some (by kernel_rfl))
  f330 := Tryz.func88.trans (congrArg some (by kernel_rfl))
  f331 := Tryz.func94.trans (congrArg some (by kernel_rfl))
  f332 := Tryz.func95.trans (congrArg some (by kernel_rfl))
  f343 := Tryz.func107.trans (congrArg some (by kernel_rfl))
  t0 := Tryz.underlying0
  a0 := Tryz.isAgg0
  z0 := Tryz.sizeOf0
  v0 := Tryz.zeroValue0
  t3 := Tryz.underlying3
  a3 := Tryz.isAgg3
  z3 := Tryz.sizeOf3
  v3 := Tryz.zeroValue3
  t4 := Tryz.underlying4
  a4 := Tryz.isAgg4
  z4 := Tryz.sizeOf4
  v4 := Tryz.zeroValue4
  t5 := Tryz.underlying5
  a5 := Tryz.isAgg5
  z5 := Tryz.sizeOf5
  v5 := Tryz.zeroValue5
  t9 := Tryz.underlying9
  a9 := Tryz.isAgg9
  z9 := Tryz.sizeOf9
  v9 := Tryz.zeroValue9
  t28 := Tryz.underlying33
  a28 := Tryz.isAgg33
  z28 := Tryz.sizeOf33
  v28 := Tryz.zeroValue33
  t46 := Tryz.underlying80
  a46 := Tryz.isAgg80
  z46 := Tryz.sizeOf80
  v46 := Tryz.zeroValue80
  t51 := Tryz.underlying102
  a51 := Tryz.isAgg102
  z51 := Tryz.sizeOf102
  v51 := Tryz.zeroValue102
  t53 := Tryz.underlying104
  a53 := Tryz.isAgg104
  z53 := Tryz.sizeOf104
  v53 := Tryz.zeroValue104
  t131 := Tryz.underlying99
  a131 := Tryz.isAgg99
  z131 := Tryz.sizeOf99
  v131 := Tryz.zeroValue99
  t182 := Tryz.underlying94
  a182 := Tryz.isAgg94
  z182 := Tryz.sizeOf94
  v182 := Tryz.zeroValue94
  t183 := Tryz.underlying95
  a183 := Tryz.isAgg95
  z183 := Tryz.sizeOf95
  v183 := Tryz.zeroValue95
  t218 := Tryz.underlying115
  a218 := Tryz.isAgg115
  z218 := Tryz.sizeOf115
  v218 := Tryz.zeroValue115
  t222 := Tryz.underlying119
  a222 := Tryz.isAgg119
  z222 := Tryz.sizeOf119
  v222 := Tryz.zeroValue119
  t228 := Tryz.underlying126
  a228 := Tryz.isAgg126
  z228 := Tryz.sizeOf126
  v228 := Tryz.zeroValue126
  t229 := Tryz.underlying127
  a229 := Tryz.isAgg127
  z229 := Tryz.sizeOf127
  v229 := Tryz.zeroValue127 }
def Tryz.mul_ren : Go.Shelf.Ren := ⟨fun | 212 => 91 | 263 => 97 | 264 => 98 | n => n, fun | 46 => 80 | 51 => 102 | 146 => 129 | 53 => 104 | 148 => 131 | n => n, fun | n => n⟩
theorem Tryz.mul : Go.Proofs.Lays.n212 Tryz.prog Tryz.mul_ren := {
  mixed := by kernel_rfl
  f212 := Tryz.func91.trans (congrArg some (by kernel_rfl))
  f263 := Tryz.func97.trans (congrArg some (by kernel_rfl))
  f264 := Tryz.func98.trans (congrArg some (by kernel_rfl))
  t46 := Tryz.underlying80
  a46 := Tryz.isAgg80
  z46 := Tryz.sizeOf80
  v46 := Tryz.zeroValue80
  t51 := Tryz.underlying102
  a51 := Tryz.isAgg102
  z51 := Tryz.sizeOf102
  v51 := Tryz.zeroValue102
  t53 := Tryz.underlying104
  a53 := Tryz.isAgg104
  z53 := Tryz.sizeOf104
  v53 := Tryz.zeroValue104
  t146 := Tryz.underlying129
  a146 := Tryz.isAgg129
  z146 := Tryz.sizeOf129
  v146 := Tryz.zeroValue129
  t148 := Tryz.underlying131
  a148 := Tryz.isAgg131
  z148 := Tryz.sizeOf131
  v148 := Tryz.zeroValue131 }
def Tryz.containsFunc_ren : Go.Shelf.Ren := ⟨fun | 8 => 50 | 6 => 73 | n => n, fun | 22 => 33 | 23 => 3 | 25 => 69 | 4 => 4 | 3 => 3 | 0 => 0 | n => n, fun | n => n⟩
theorem Tryz.containsFunc : Go.Proofs.SlLaysH.n8 Tryz.prog Tryz.containsFunc_ren := {
  mixed := by kernel_rfl
  f6 := ⟨Tryz.f73.name, by decide, Tryz.func73.trans (congrArg some (by kernel_rfl))⟩
  f8 := ⟨Tryz.f50.name, by decide, Tryz.func50.trans (congrArg some (by kernel_rfl))⟩
  t0 := Tryz.underlying0
  a0 := Tryz.isAgg0
  z0 := Tryz.sizeOf0
  v0 := Tryz.zeroValue0
  t3 := Tryz.underlying3
  a3 := Tryz.isAgg3
  z3 := Tryz.sizeOf3
  v3 := Tryz.zeroValue3
  t4 := Tryz.underlying4
  a4 := Tryz.isAgg4
  z4 := Tryz.sizeOf4
  v4 := Tryz.zeroValue4
  t22 := Tryz.underlying33
  a22 := Tryz.isAgg33
  z22 := Tryz.sizeOf33
  v22 := Tryz.zeroValue33
  a23 := Tryz.isAgg3
  z23 := Tryz.sizeOf3
  t25 := Tryz.underlying69
  a25 := Tryz.isAgg69
  z25 := Tryz.sizeOf69
  v25 := Tryz.zeroValue69 }
end Go.Proofs
namespace Go.Proofs.YtplhpinaadgkkaaGreat
open Go.RowKit Go.Lib Go.Sort

/-- What place tells: how many edges stand ahead, and whether the edge is one of them. -/
structure PlaceAt (es : List (Int × Int)) (e : Int × Int) (at_ : Nat) (has : Bool) : Prop where
  le : at_ ≤ es.length
  ahead : ∀ i (h : i < es.length), i < at_ → ltE es[i] e = true
  behind : ∀ i (h : i < es.length), at_ ≤ i → ltE es[i] e = false
  has_iff : has = true ↔ ∃ h : at_ < es.length, es[at_] = e
theorem PlaceAt.mem {es : List (Int × Int)} {e : Int × Int} {at_ : Nat} {has : Bool} (h : PlaceAt es e at_ has) (hr : Rises es) : has = true ↔ e ∈ es := by
  rw [h.has_iff]
  constructor
  · rintro ⟨h1, h2⟩; rw [← h2]; exact List.getElem_mem _
  · intro he
    obtain ⟨i, hi, rfl⟩ := List.getElem_of_mem he
    have h1 : ¬ i < at_ := fun hlt => by have := h.ahead i hi hlt; rw [ltE_irrefl] at this; exact absurd this (by simp)
    have h2 : ¬ at_ < i := fun hlt => by
      have h3 := rises_at hr hlt hi
      rw [h.behind at_ (by omega) (Nat.le_refl _)] at h3
      exact absurd h3 (by simp)
    obtain rfl : at_ = i := by omega
    exact ⟨hi, rfl⟩

end Go.Proofs.YtplhpinaadgkkaaGreat
namespace Go.Proofs.YtplhpinaadgkkaaGreat
open Go.RowKit Go.Lib

theorem EAt.news {w : World} {ad : Addr} {es : List (Int × Int)} (h : EAt w (some ad) es) : ∀ j u, (cellsE es)[j]? = some u → w.cell? (ad.add j) = some u := by
  intro j u hu
  have hj : j < es.length * 2 := by rw [← cellsE_len]; exact (List.getElem?_eq_some_iff.1 hu).1
  obtain ⟨g, off, e, _, _⟩ := h (by omega)
  obtain rfl := Option.some.inj e
  rw [add_at]
  exact h.cells j u hu
theorem own_ge {w : World} {base : Nat} {e : TypeId} {size n cap : Nat} {a : Option Addr} {xs : List Value} (h : w.ownsRow base e size (.slice a n cap) n xs) : ∀ g off, a = some ⟨g, off, none⟩ → base ≤ g := fun g off ha => by
  rcases h.2 with ⟨hv, _⟩ | ⟨g', cap', cur, hv, hb, _⟩
  · simp only [Value.slice.injEq] at hv
    rw [hv.1] at ha
    cases ha
  · simp only [Value.slice.injEq] at hv
    rw [hv.1] at ha
    simp only [Option.some.injEq, Addr.mk.injEq, and_true] at ha
    omega

end Go.Proofs.YtplhpinaadgkkaaGreat
namespace Go.Proofs.YtplhpinaadgkkaaGreat
open Go.RowKit Go.Lib

theorem new_two' (w : World) (o1 o2 : Obj) : ∃ W0, W0 = (w.alloc o1).alloc o2 ∧ W0.heap.size = w.heap.size + 1 + 1 ∧ W0.heap[w.heap.size]? = some o1 ∧ W0.heap[w.heap.size + 1]? = some o2 ∧ Below w.heap.size w W0 := by
  have s1 : (w.alloc o1).heap.size = w.heap.size + 1 := by simp
  refine ⟨_, rfl, by simp, ?_, ?_, ((Below.refl _ _).alloc (Nat.le_refl _) _).alloc (by omega) _⟩
  · rw [Below.heap_alloc _ _ _ (by omega)]; exact heap_alloc_new _ _
  · rw [← s1]; exact heap_alloc_new _ _
end Go.Proofs.YtplhpinaadgkkaaGreat
namespace Go.Proofs.YtplhpinaadgkkaaGreat
open Go.RowKit Go.Lib

/-- What a call that keeps what was there leaves of Add's own variables. -/
structure Kept (w V : World) (n : Int) (sv : Value) : Prop where
  n0 : V.cell? ⟨w.heap.size, 0, none⟩ = some (.int .i64 n)
  e0 : V.cell? ⟨w.heap.size, 1, none⟩ = some sv
  box : V.heap[w.heap.size + 1]? = some (.cells #[.int .i64 0, .slice none 0 0] 26)
  below : Below w.heap.size w V
  size : w.heap.size + 1 + 1 ≤ V.heap.size
theorem Kept.on {w V V' : World} {n : Int} {sv : Value} (h : Kept w V n sv) (hb : Below V.heap.size V V') : Kept w V' n sv := by
  have hs := h.size
  exact ⟨(hb.cell (p := ⟨w.heap.size, 0, none⟩) (by simp; omega)).trans h.n0, (hb.cell (p := ⟨w.heap.size, 1, none⟩) (by simp; omega)).trans h.e0, (hb.block _ (by omega)).trans h.box, h.below.trans (hb.mono h.below.size), Nat.le_trans hs hb.size⟩
end Go.Proofs.YtplhpinaadgkkaaGreat
namespace Go.Proofs.YtplhpinaadgkkaaGreat
open Go.RowKit Go.Lib Go.Sort

/-- The first n of a row that is told place by place. -/
def lst (c : Nat → Int × Int) (n : Nat) : List (Int × Int) := (List.range n).map c
theorem lst_len (c : Nat → Int × Int) (n : Nat) : (lst c n).length = n := by simp [lst]
theorem lst_succ (c : Nat → Int × Int) (n : Nat) : lst c (n + 1) = lst c n ++ [c n] := by simp [lst, List.range_succ]
theorem lst_at {c : Nat → Int × Int} {n k : Nat} (h : k < (lst c n).length) : (lst c n)[k] = c k := by simp [lst]
theorem mem_lst {c : Nat → Int × Int} {n : Nat} {x : Int × Int} : x ∈ lst c n ↔ ∃ j, j < n ∧ c j = x := by simp [lst]
theorem lst_congr {c d : Nat → Int × Int} {n : Nat} (h : ∀ j, j < n → c j = d j) : lst c n = lst d n := List.map_congr_left (fun j hj => h j (by simpa using hj))
theorem lst_list (es : List (Int × Int)) : lst (fun j => es[j]?.getD (0, 0)) es.length = es := by
  apply List.ext_getElem
  · simp [lst]
  · intro i h1 h2; simp [lst, h2]
theorem rises_snoc {es : List (Int × Int)} {x : Int × Int} (h : Rises es) (hx : ∀ y ∈ es, ltE y x = true) : Rises (es ++ [x]) := by
  unfold Rises
  rw [List.pairwise_append]
  exact ⟨h, by simp, fun a ha b hb => by simp at hb; subst hb; exact hx a ha⟩

/-- A row of edges that may be written, place by place. -/
def Row2 (w : World) (g n : Nat) (c : Nat → Int × Int) : Prop := g < w.heap.size ∧ ∀ j, j < n → (w.cell? ⟨g, j * 2, none⟩ = some (.int .i64 (c j).1) ∧ w.frozen? ⟨g, j * 2, none⟩ = false) ∧ (w.cell? ⟨g, j * 2 + 1, none⟩ = some (.int .i64 (c j).2) ∧ w.frozen? ⟨g, j * 2 + 1, none⟩ = false)
theorem Row2.drewN {w : World} {g n : Nat} {c : Nat → Int × Int} (h : Row2 w g n c) (q : Nat) : Row2 (w.drewN q) g n c := h
theorem cell_set_other {w : World} {p q : Addr} {v : Value} (h : q ≠ p) : (w.setCell p v).cell? q = w.cell? q := World.cell?_setCell_other _ _ _ _ (Ne.symm h)
theorem Row2.put {w : World} {g n : Nat} {c : Nat → Int × Int} (h : Row2 w g n c) {i : Nat} (hi : i < n) (x : Int × Int) :
    Row2 ((w.setCell ⟨g, i * 2, none⟩ (.int .i64 x.1)).setCell ⟨g, i * 2 + 1, none⟩ (.int .i64 x.2)) g n (fun j => if j = i then x else c j) := by
  refine ⟨by simpa using h.1, fun j hj => ?_⟩
  obtain ⟨⟨a, fa⟩, b, fb⟩ := h.2 j hj
  obtain ⟨⟨ai, fai⟩, bi, fbi⟩ := h.2 i hi
  simp only [World.frozen?_setCell]
  refine ⟨⟨?_, fa⟩, ?_, fb⟩
  · rw [cell_set_other (by simp <;> omega)]
    by_cases e : j = i
    · subst e
      rw [if_pos rfl]
      exact World.cell?_setCell_same' _ _ _ (by rw [a]; rfl)
    · rw [if_neg e, cell_set_other (by simp <;> omega)]
      exact a
  · by_cases e : j = i
    · subst e
      rw [if_pos rfl]
      exact World.cell?_setCell_same' _ _ _ (by rw [cell_set_other (by simp <;> omega), b]; rfl)
    · rw [if_neg e, cell_set_other (by simp <;> omega), cell_set_other (by simp <;> omega)]
      exact b
theorem Row2.eat {w : World} {g n K : Nat} {c : Nat → Int × Int} (h : Row2 w g n c) (hK : K ≤ n) : EAt w (some ⟨g, 0, none⟩) (lst c K) := fun _ =>
  ⟨g, 0, rfl, h.1, fun k hk => by
    rw [lst_len] at hk
    have := h.2 k (by omega)
    rw [lst_at, Nat.zero_add]
    exact ⟨this.1.1, this.2.1⟩⟩

def encE (x : Int × Int) : List Value := [.int .i64 x.1, .int .i64 x.2]
theorem encE_one (x : Int × Int) : ∀ v ∈ encE x, v.oneCell' = true := fun v hv => by simp [encE] at hv; rcases hv with rfl | rfl <;> rfl
theorem Row2.holds {w : World} {g n : Nat} {c : Nat → Int × Int} (h : Row2 w g n c) : HoldsK encE 2 w g 0 (lst c n).toArray := by
  intro j hj
  have hj' : j < n * 2 := by rw [size_flatK] at hj; simpa [lst_len] using hj
  rw [get_flatK _ _ _ _ (by simpa [lst_len] using hj')]
  have hn : j / 2 < (lst c n).length := by rw [lst_len]; omega
  have e : (lst c n).toArray[j / 2]! = c (j / 2) := by
    rw [getElem!_pos _ _ (by simpa using hn)]
    simp [lst]
  rw [e, Nat.zero_add]
  have hh := h.2 (j / 2) (by omega)
  rcases Nat.mod_two_eq_zero_or_one j with h0 | h0
  · have h2 : j / 2 * 2 = j := by omega
    rw [h0]
    rw [h2] at hh
    exact hh.1
  · have h2 : j / 2 * 2 + 1 = j := by omega
    rw [h0]
    rw [h2] at hh
    exact hh.2
theorem row2_holds {w : World} {g : Nat} {d : Array (Int × Int)} (hg : g < w.heap.size) (h : HoldsK encE 2 w g 0 d) : Row2 w g d.size (fun j => d[j]!) := by
  refine ⟨hg, fun j hj => ?_⟩
  have a := h.cell hj (show 0 < 2 by omega)
  have b := h.cell hj (show 1 < 2 by omega)
  rw [Nat.zero_add] at a b
  exact ⟨a, b⟩

theorem row2_own {w : World} {base : Nat} {e : TypeId} {v : Value} {es : List (Int × Int)} (h : w.ownsRow base e 2 v es.length (cellsE es)) (hn : 0 < es.length) :
    ∃ g cap, v = .slice (some ⟨g, 0, none⟩) es.length cap ∧ base ≤ g ∧ es.length ≤ cap ∧ Row2 w g es.length (fun j => es[j]?.getD (0, 0)) := by
  rcases h.2 with ⟨_, h0⟩ | ⟨g, cap, cur, hv, hb, hg, hnc, _, hcur, htake⟩
  · omega
  · have hgs : g < w.heap.size := (Array.getElem?_eq_some_iff.1 hg).1
    refine ⟨g, cap, hv, hb, hnc, hgs, fun j hj => ?_⟩
    have hc := h.cells (g := g) (by rw [hv]; rfl)
    have h1 := cellsE_at es j hj
    have c1 := hc _ _ h1.1
    have c2 := hc _ _ h1.2
    rw [add_at, Nat.zero_add] at c1 c2
    have e : es[j]?.getD (0, 0) = es[j] := by rw [List.getElem?_eq_getElem hj]; rfl
    show (_ = some (Value.int .i64 (es[j]?.getD (0, 0)).1) ∧ _) ∧ (_ = some (Value.int .i64 (es[j]?.getD (0, 0)).2) ∧ _)
    rw [e]
    exact ⟨⟨c1, frozen_of_heap hg _⟩, c2, frozen_of_heap hg _⟩

theorem swoE : SWO (ltOf cmpE) := by
  have e : ∀ x y, ltOf cmpE x y = ltE x y := fun x y => cmpE_lt x y
  exact ⟨fun x => by rw [e]; exact ltE_irrefl x, fun x y z h h' => by rw [e] at *; exact ltE_trans h h', fun x y z h h' => by rw [e] at *; exact ltE_ntrans h h'⟩

theorem cmpLays (blk off size : Nat) (w : World) : CmpLays Tryz.prog 75 #[] encE 2 cmpE blk off size w := fun _ _ _ _ x y =>
  (cmp_any x y _).mono fun _ _ ⟨h, os, hw⟩ => ⟨h, 0, os, hw⟩

theorem grown_sortE {w : World} {g n : Nat} {os : Array Obj} (d : Array (Int × Int)) : w.grownBy (sortWorldK encE 2 w g 0 n d os) (some g) := by
  refine ⟨rfl, rfl, rfl, size_sortWorldK_c encE 2 w g 0 n d os, fun k hk hne => ?_⟩
  unfold sortWorldK
  rw [heap_grow_old _ _ (by simpa [putRowK, putRow, mapBlock, Sort.ahead] using hk)]
  have : g ≠ k := fun e => hne (by rw [e])
  simp [putRowK, putRow, mapBlock, Sort.ahead, Array.getElem?_modify, this]

set_option maxHeartbeats 400000 in
/-- slices.SortFunc at edges: the row holds the same edges, none of which is less than one ahead of it. -/
theorem sort_any (g n cap base : Nat) (c : Nat → Int × Int) (w : World) (hb : base ≤ g) (hbw : base ≤ w.heap.size) (h : Row2 w g n c) (hn : n ≤ 1000000) :
    Calls Tryz.prog 74 #[.slice (some ⟨g, 0, none⟩) n cap, .func (.func 75) #[] #[]] w fun e w' => e = .returned (.tuple #[]) ∧ ∃ c', Row2 w' g n c' ∧ (∀ i j, i < j → j < n → ltE (c' j) (c' i) = false) ∧ (∀ x, x ∈ lst c' n ↔ x ∈ lst c n) ∧ Below base w w' := by
  have hsz : (lst c n).toArray.size = n := by simp [lst]
  have eg : ∀ args w, (callFunc 75 args).run Tryz.prog w = .ok (.enter 75 args) w := enters_of Tryz.func75 (by kernel_rfl) rfl
  have hcon := AnyQ.slices_SortFunc Tryz.sortE 2 Tryz.isAgg41 Tryz.sizeOf41 encE (fun _ => rfl) encE_one cmpE swoE 75 #[] g 0 cap (lst c n).toArray w eg (cmpLays g 0 _ w) h.holds h.1 (by rw [hsz]; omega)
  change Calls Tryz.prog 74 _ _ _ at hcon
  rw [hsz] at hcon
  refine hcon.mono ?_
  rintro e w' ⟨rfl, d', q, os, hp, hs, rfl⟩
  have hd : d'.size = n := by rw [hp.1, hsz]
  refine ⟨rfl, fun j => d'[j]!, ?_, fun i j hij hj => ?_, fun x => ?_, ?_⟩
  · have := row2_holds (d := d') (w := sortWorldK encE 2 w g 0 q d' os) (Nat.lt_of_lt_of_le h.1 (size_sortWorldK_c encE 2 w g 0 q d' os)) (holdsK_sortWorldK_c encE 2 w g 0 _ d' q os h.holds h.1 (by rw [hd, hsz]))
    rwa [hd] at this
  · have := hs i j (Nat.zero_le _) hij hj
    rwa [show ltOf cmpE d'[j]! d'[i]! = ltE d'[j]! d'[i]! from cmpE_lt _ _] at this
  · have hperm := hp.2.2
    have e1 : (d'.extract 0 n).toList = d'.toList := by rw [show n = d'.size from hd.symm]; simp
    have e2 : ((lst c n).toArray.extract 0 n).toList = lst c n := by
      rw [Array.toList_extract]
      simp [List.take_of_length_le, lst_len]
    rw [e1, e2] at hperm
    have e3 : lst (fun j => d'[j]!) n = d'.toList := by
      apply List.ext_getElem
      · simp [lst, hd]
      · intro i h1 h2
        simp [lst]
        rw [getElem!_pos d' i (by simpa using h2)]
    rw [e3]
    exact hperm.mem_iff
  · exact Below.grown (Below.refl _ _) (grown_sortE d') hbw (fun k hk => by cases hk; exact hb)
end Go.Proofs.YtplhpinaadgkkaaGreat
namespace Go.Proofs.YtplhpinaadgkkaaGreat
open Go.RowKit Go.Lib Go.Sort

theorem same_or (x y : Int × Int) : (x.1 = y.1 ∧ x.2 = y.2) ∨ (x.1 = y.1 ∧ (x.2 == y.2) = false) ∨ (x.1 == y.1) = false := by
  by_cases h : x.1 = y.1
  · by_cases h2 : x.2 = y.2
    · exact Or.inl ⟨h, h2⟩
    · exact Or.inr (Or.inl ⟨h, beq_eq_false_iff_ne.2 h2⟩)
  · exact Or.inr (Or.inr (beq_eq_false_iff_ne.2 h))
theorem lt_next {c : Nat → Int × Int} {n : Nat} (hs : ∀ i j, i < j → j < n → ltE (c j) (c i) = false) {m : Nat} (hm : m + 1 < n) (hne : c (m + 1) ≠ c m) : ∀ j, j ≤ m → ltE (c j) (c (m + 1)) = true := by
  intro j hj
  cases h : ltE (c j) (c (m + 1)) with
  | true => rfl
  | false =>
    have e := ltE_tri _ _ h (hs j (m + 1) (by omega) hm)
    by_cases hjm : j = m
    · subst hjm; exact absurd e.symm hne
    · have h2 := hs j m (by omega) (by omega)
      have h3 := hs m (m + 1) (by omega) hm
      rw [e] at h2
      exact absurd (ltE_tri _ _ h3 h2) hne
theorem rise_next {c : Nat → Int × Int} {n m : Nat} (hs : ∀ i j, i < j → j < n → ltE (c j) (c i) = false) (hm : m + 1 < n) (hne : c (m + 1) ≠ c m) (h : Rises (lst c (m + 1))) : Rises (lst c (m + 1 + 1)) := by
  rw [lst_succ]
  refine rises_snoc h (fun y hy => ?_)
  obtain ⟨j, hj, rfl⟩ := mem_lst.1 hy
  exact lt_next hs hm hne j (by omega)
theorem rise_small (c : Nat → Int × Int) {n : Nat} (h : n < 2) : Rises (lst c n) := by
  unfold Rises lst
  rcases (by omega : n = 0 ∨ n = 1) with rfl | rfl <;> simp [List.range_succ]

/-- What the second loop has made: K places hold the edges of the first T, each once; those behind are as they were. -/
structure Made (c c' : Nat → Int × Int) (K T : Nat) : Prop where
  rises : Rises (lst c' K)
  mem : ∀ x, x ∈ lst c' K ↔ x ∈ lst c T
  high : ∀ j, K ≤ j → c' j = c j
theorem made_start {c : Nat → Int × Int} {m : Nat} (h : Rises (lst c (m + 1))) (e : c (m + 1) = c m) : Made c c (m + 1) (m + 1 + 1) := by
  refine ⟨h, fun x => ?_, fun _ _ => rfl⟩
  rw [lst_succ c (m + 1), List.mem_append]
  refine ⟨Or.inl, fun hx => ?_⟩
  rcases hx with hx | hx
  · exact hx
  · simp at hx
    rw [hx, e]
    exact mem_lst.2 ⟨m, by omega, rfl⟩
theorem made_skip {c c' : Nat → Int × Int} {K T : Nat} (h : Made c c' K (T + 1)) (e : c (T + 1) = c T) : Made c c' K (T + 1 + 1) := by
  refine ⟨h.rises, fun x => ?_, h.high⟩
  rw [h.mem, lst_succ c (T + 1), List.mem_append]
  refine ⟨Or.inl, fun hx => ?_⟩
  rcases hx with hx | hx
  · exact hx
  · simp at hx
    rw [hx, e]
    exact mem_lst.2 ⟨T, by omega, rfl⟩
theorem made_put {c c' : Nat → Int × Int} {K T n : Nat} (h : Made c c' K (T + 1)) (hs : ∀ i j, i < j → j < n → ltE (c j) (c i) = false) (hT : T + 1 < n) (hne : c (T + 1) ≠ c T) : Made c (fun j => if j = K then c (T + 1) else c' j) (K + 1) (T + 1 + 1) := by
  have e0 : lst (fun j => if j = K then c (T + 1) else c' j) K = lst c' K := lst_congr (fun j hj => if_neg (by omega))
  refine ⟨?_, fun x => ?_, fun j hj => ?_⟩
  · rw [lst_succ, e0]
    refine rises_snoc h.rises (fun y hy => ?_)
    rw [h.mem] at hy
    obtain ⟨j, hj, rfl⟩ := mem_lst.1 hy
    show ltE (c j) (if K = K then c (T + 1) else c' K) = true
    rw [if_pos rfl]
    exact lt_next hs hT hne j (by omega)
  · rw [lst_succ, lst_succ c (T + 1), e0, List.mem_append, List.mem_append, h.mem]
    simp
  · show (if j = K then c (T + 1) else c' j) = c j
    rw [if_neg (by omega)]
    exact h.high j (by omega)

/-- 'clear' of a row of edges: some cells of that block alone are written. -/
theorem run_clear_edges (w : World) (b o n c : Nat) (hn : 0 < n) (hc : ∀ j, j < n * 2 → (w.cell? ⟨b, o + j, none⟩).isSome = true) (hf : ∀ j, j < n * 2 → w.frozen? ⟨b, o + j, none⟩ = false) :
    ∃ vs : List Value, vs.length = n * 2 ∧ ∀ ty : TypeId, (Builtin.clear_ #[22] ty #[.slice (some ⟨b, o, none⟩) n c]).run Tryz.prog w = .ok (.tuple #[]) (w.setCells b o vs) := by
  obtain ⟨vs, hvs⟩ : ∃ vs : List Value, vs = (Builtin.zeroCells (Value.agg #[.int .i64 0, .int .i64 0]).cells n).toList := ⟨_, rfl⟩
  have hl : vs.length = n * 2 := by rw [hvs]; simp [Builtin.zeroCells, Value.cells]
  have h1 : ∀ v ∈ vs, v.oneCell' = true := by
    rw [hvs]
    intro v hv
    simp [Builtin.zeroCells, Value.cells] at hv
    obtain ⟨i, hi, rfl⟩ := hv
    rcases Nat.mod_two_eq_zero_or_one i with h0 | h0 <;> simp [h0] <;> rfl
  refine ⟨vs, hl, fun ty => ?_⟩
  have hst := run_storeCells_cells (P := Tryz.prog) b o vs 0 w (by rw [hl]; simpa using hc) (by rw [hl]; simpa using hf) h1
  simp only [Nat.add_zero] at hst
  obtain ⟨m, rfl⟩ : ∃ m, n = m + 1 := ⟨n - 1, by omega⟩
  simp [Builtin.clear_, run_underlying Tryz.underlying22, Tryz.zeroValue41, ← hvs, hst]
end Go.Proofs.YtplhpinaadgkkaaGreat
