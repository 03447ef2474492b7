package block

import (
	"fmt"
	"math"
	"math/bits"
	"slices"
	"testing"

	"carcanet/api"
)

// with tells the graph whose edges have the ends l, one behind the other.
func with(n int, l ...int) api.Graph {
	g := api.Graph{N: n}
	for i := 0; i+1 < len(l); i += 2 {
		g.E = append(g.E, api.Edge{A: l[i], B: l[i+1]})
	}
	return g
}

// row tells the numbers from first to last, also if they fall.
func row(first, last int) []int {
	if first > last {
		out := row(last, first)
		slices.Reverse(out)
		return out
	}
	out := []int{}
	for v := first; v <= last; v++ {
		out = append(out, v)
	}
	return out
}

func pathOf(n int) api.Graph {
	g := api.Graph{N: n}
	for v := 0; v+1 < n; v++ {
		g.E = append(g.E, api.Edge{A: v, B: v + 1})
	}
	return g
}

// ringOf is pathOf, and the first and the last vertex are neighbours.
func ringOf(n int) api.Graph {
	g := pathOf(n)
	g.E = slices.Insert(g.E, 1, api.Edge{A: 0, B: n - 1})
	return g
}

// starOf has n vertices, which are all beside the middle, and no other edge.
func starOf(n, middle int) api.Graph {
	g := api.Graph{N: n}
	for v := range n {
		if v != middle {
			g.E = append(g.E, api.Edge{A: min(v, middle), B: max(v, middle)})
		}
	}
	return g
}

// pairs tells all pairs of n vertices, rising: what a full graph's edges are.
func pairs(n int) []api.Edge {
	var out []api.Edge
	for a := range n {
		for b := a + 1; b < n; b++ {
			out = append(out, api.Edge{A: a, B: b})
		}
	}
	return out
}

// full has as many edges as there may be, among the first 90 vertices.
func full() api.Graph {
	return api.Graph{N: api.MaxN, E: pairs(90)[:api.MaxM]}
}

// edgeRows tells the edges as rows.
func edgeRows(l []api.Edge) [][]int {
	var out [][]int
	for _, e := range l {
		out = append(out, []int{e.A, e.B})
	}
	return out
}

// eachGraph goes through all graphs of n vertices.
func eachGraph(n int, visit func(g api.Graph)) {
	all := pairs(n)
	for chosen := range 1 << len(all) {
		g := api.Graph{N: n}
		for i, e := range all {
			if chosen>>i&1 == 1 {
				g.E = append(g.E, e)
			}
		}
		visit(g)
	}
}

// eachRow goes through all rows of at most m numbers from low to high.
func eachRow(m, low, high int, visit func(l []int)) {
	var l []int
	var more func()
	more = func() {
		visit(l)
		if len(l) == m {
			return
		}
		for v := low; v <= high; v++ {
			l = append(l, v)
			more()
			l = l[:len(l)-1]
		}
	}
	more()
}

// eachRising goes through all rising rows of numbers below n, from the least
// row on.
func eachRising(n int, visit func(l []int)) {
	var l []int
	var more func(from int)
	more = func(from int) {
		visit(l)
		for v := from; v < n; v++ {
			l = append(l, v)
			more(v + 1)
			l = l[:len(l)-1]
		}
	}
	more(0)
}

// eachOrder goes through all orders of l.
func eachOrder(l []int, visit func(l []int)) {
	eachRow(len(l), 0, len(l)-1, func(places []int) {
		if len(places) < len(l) || !slowUnlike(places) {
			return
		}
		var turned []int
		for _, i := range places {
			turned = append(turned, l[i])
		}
		visit(turned)
	})
}

func slowUnlike(l []int) bool {
	for i, v := range l {
		if slices.Contains(l[:i], v) {
			return false
		}
	}
	return true
}

// brief tells what stands in a message, so that great graphs don't fill it.
func brief(what ...any) string {
	text := fmt.Sprint(what...)
	if len(text) > 400 {
		return text[:400] + " .."
	}
	return text
}

// nearSets tells the neighbours of each vertex as the bits of a number.
func nearSets(g api.Graph) []uint {
	near := make([]uint, g.N)
	for _, e := range g.E {
		near[e.A] |= 1 << e.B
		near[e.B] |= 1 << e.A
	}
	return near
}

func setOf(l []int) uint {
	var set uint
	for _, v := range l {
		set |= 1 << v
	}
	return set
}

// slowWhole tells whether one comes from each of the set to each.
func slowWhole(near []uint, set uint) bool {
	reached := set & -set
	for last := uint(0); last != reached; {
		last = reached
		for v, w := range near {
			if last>>v&1 == 1 {
				reached |= w & set
			}
		}
	}
	return set != 0 && reached == set
}

// slowHolds is what G1 says of a set, word by word.
func slowHolds(near []uint, set uint) bool {
	many := bits.OnesCount(set)
	if many < 2 || !slowWhole(near, set) {
		return false
	}
	for v := range near {
		if many > 2 && set>>v&1 == 1 && !slowWhole(near, set&^(1<<v)) {
			return false
		}
	}
	return true
}

// slowTwo is for graphs that are right, and have few vertices.
func slowTwo(g api.Graph, l []int) bool {
	if slices.ContainsFunc(l, func(v int) bool { return v < 0 || v >= g.N }) || !slowUnlike(l) {
		return false
	}
	return slowHolds(nearSets(g), setOf(l))
}

// slowOf is for graphs that are right, and have few vertices: it looks at all
// sets there are.
func slowOf(g api.Graph) Tree {
	var holding []uint
	near := nearSets(g)
	for set := range uint(1) << g.N {
		if slowHolds(near, set) {
			holding = append(holding, set)
		}
	}
	var tree Tree
	times := make([]int, g.N)
	eachRising(g.N, func(l []int) {
		set := setOf(l)
		greater := func(other uint) bool { return other != set && other&set == set }
		if !slices.Contains(holding, set) || slices.ContainsFunc(holding, greater) {
			return
		}
		tree.Blocks = append(tree.Blocks, slices.Clone(l))
		for _, v := range l {
			times[v]++
		}
	})
	for v := range g.N {
		if times[v] > 1 {
			tree.Cuts = append(tree.Cuts, v)
		}
	}
	return tree
}

func same(x, y Tree) bool {
	return slices.Equal(x.Cuts, y.Cuts) && slices.EqualFunc(x.Blocks, y.Blocks, slices.Equal[[]int])
}

func kept(x Tree) Tree {
	out := Tree{Cuts: slices.Clone(x.Cuts)}
	for _, block := range x.Blocks {
		out.Blocks = append(out.Blocks, slices.Clone(block))
	}
	return out
}

func wantTwo(t *testing.T, g api.Graph, want bool, l ...int) {
	t.Helper()
	edges, before := slices.Clone(g.E), slices.Clone(l)
	if got := Two(g, l); got != want {
		t.Errorf("Two(%s, %s) = %t", brief(g), brief(l), got)
	}
	if !slices.Equal(g.E, edges) || !slices.Equal(l, before) {
		t.Errorf("of %s and %s is left %s and %s", brief(edges), brief(before), brief(g.E), brief(l))
	}
}

func wantTree(t *testing.T, g api.Graph, want Tree) {
	t.Helper()
	edges := slices.Clone(g.E)
	if got := Of(g); !same(got, want) {
		t.Errorf("Of(%s) = %s, want %s", brief(g), brief(got), brief(want))
	}
	if !slices.Equal(g.E, edges) {
		t.Errorf("of %s is left %s", brief(edges), brief(g.E))
	}
}

func wantOf(t *testing.T, g api.Graph, cuts []int, blocks ...[]int) {
	t.Helper()
	wantTree(t, g, Tree{Cuts: cuts, Blocks: blocks})
}

// notRight tells graphs that may not be, in each of the ways. But for that,
// most of them have vertices 0, 1 and 2, and 0 and 1 beside each other.
func notRight() map[string]api.Graph {
	return map[string]api.Graph{
		"fewer than no vertices":     with(-1),
		"fewer, with an edge":        with(-1, 0, 1),
		"far fewer":                  with(math.MinInt, 0, 1),
		"one vertex too many":        with(api.MaxN + 1),
		"too many, with edges":       with(api.MaxN+1, 0, 1, 0, 2, 1, 2),
		"far too many":               with(math.MaxInt, 0, 1, 0, 2, 1, 2),
		"one edge too many":          {N: 101, E: pairs(101)[:api.MaxM+1]},
		"the greater first":          with(3, 1, 0),
		"the greater first, later":   with(3, 0, 1, 2, 1),
		"a vertex beside itself":     with(3, 0, 0, 0, 1),
		"below the first vertex":     with(3, -1, 0, 0, 1),
		"the second one below it":    with(3, 0, -1, 0, 1),
		"both below it":              with(3, -2, -1, 0, 1),
		"behind the last vertex":     with(3, 0, 1, 0, 3),
		"both behind it":             with(3, 0, 1, 3, 4),
		"far behind it":              with(3, 0, 1, 0, math.MaxInt),
		"far below":                  with(3, math.MinInt, 1),
		"an edge without vertices":   with(0, 0, 1),
		"an edge of a single vertex": with(1, 0, 1),
		"the first vertices fall":    with(3, 1, 2, 0, 1),
		"the second ones fall":       with(3, 0, 2, 0, 1, 1, 2),
		"an edge twice":              with(3, 0, 1, 0, 1, 0, 2, 1, 2),
		"twice, turned round":        with(3, 0, 1, 1, 0, 1, 2),
		"twice, others between":      with(3, 0, 1, 0, 2, 0, 1),
		"wrong at the end only":      with(4, 0, 1, 0, 2, 1, 2, 1, 4),
	}
}

func TestG1FewVertices(t *testing.T) {
	for n := range 4 {
		g := api.Graph{N: n, E: pairs(n)}
		wantTwo(t, g, false)
		wantTwo(t, g, false, []int{}...)
		for v := range n {
			wantTwo(t, g, false, v)
			wantTwo(t, g, false, v, v)
		}
	}
	wantTwo(t, with(0), false, 0)
	wantTwo(t, with(1), false, 0, 1)
}

func TestG1TwoVertices(t *testing.T) {
	g := with(5, 0, 1, 1, 4, 2, 3)
	for a := range 5 {
		for b := range 5 {
			wantTwo(t, g, slices.Contains(g.E, api.Edge{A: min(a, b), B: max(a, b)}), a, b)
		}
	}
}

func TestG1MoreVertices(t *testing.T) {
	wantTwo(t, ringOf(3), true, 0, 1, 2)
	wantTwo(t, ringOf(4), true, 0, 1, 2, 3)
	wantTwo(t, api.Graph{N: 5, E: pairs(5)}, true, 0, 1, 2, 3, 4)
	wantTwo(t, api.Graph{N: 5, E: pairs(5)}, true, 4, 0, 2)
	// K23, and it without one of the three.
	k23 := with(5, 0, 2, 0, 3, 0, 4, 1, 2, 1, 3, 1, 4)
	wantTwo(t, k23, true, 0, 1, 2, 3, 4)
	wantTwo(t, k23, true, 0, 1, 2, 4)
	wantTwo(t, k23, false, 0, 2, 3, 4)
	wantTwo(t, k23, false, 2, 3, 4)
}

// TestG1WholeButNotWithoutOne: what hangs together by one vertex alone.
func TestG1WholeButNotWithoutOne(t *testing.T) {
	wantTwo(t, pathOf(3), false, 0, 1, 2)
	wantTwo(t, pathOf(5), false, row(0, 4)...)
	for middle := range 5 {
		wantTwo(t, starOf(5, middle), false, row(0, 4)...)
	}
	// A ring with a tail, wherever that hangs on it.
	for v := range 4 {
		g := ringOf(4)
		g.N++
		g.E = append(g.E, api.Edge{A: v, B: 4})
		slices.SortFunc(g.E, func(x, y api.Edge) int { return 8*(x.A-y.A) + x.B - y.B })
		eachOrder(row(0, 4), func(l []int) { wantTwo(t, g, false, l...) })
		wantTwo(t, g, true, row(0, 3)...)
		wantTwo(t, g, true, v, 4)
	}
}

func TestG1TwoRings(t *testing.T) {
	// With one vertex in common, with two, and joined by an edge.
	one := with(5, 0, 1, 0, 2, 1, 2, 2, 3, 2, 4, 3, 4)
	wantTwo(t, one, true, 0, 1, 2)
	wantTwo(t, one, true, 2, 3, 4)
	wantTwo(t, one, false, 0, 1, 2, 3, 4)
	wantTwo(t, one, false, 0, 1, 2, 3)
	wantTwo(t, one, false, 0, 1, 3, 4)
	two := with(4, 0, 1, 0, 2, 1, 2, 1, 3, 2, 3)
	wantTwo(t, two, true, 0, 1, 2, 3)
	wantTwo(t, two, true, 0, 1, 2)
	wantTwo(t, two, false, 0, 1, 3)
	apart := with(4, 0, 1, 0, 2, 1, 3, 2, 3)
	wantTwo(t, apart, true, 0, 1, 2, 3)
	joined := with(6, 0, 1, 0, 2, 1, 2, 2, 3, 3, 4, 3, 5, 4, 5)
	wantTwo(t, joined, true, 0, 1, 2)
	wantTwo(t, joined, true, 2, 3)
	wantTwo(t, joined, true, 3, 4, 5)
	wantTwo(t, joined, false, 0, 1, 2, 3)
	wantTwo(t, joined, false, row(0, 5)...)
	wantTwo(t, joined, false, 0, 1, 2, 3, 4)
	// Not joined at all.
	wantTwo(t, with(6, 0, 1, 0, 2, 1, 2, 3, 4, 3, 5, 4, 5), false, row(0, 5)...)
}

// TestG1ByItsVerticesAlone: a way by others does not count, for the set nor
// for the set without one.
func TestG1ByItsVerticesAlone(t *testing.T) {
	wantTwo(t, ringOf(5), true, row(0, 4)...)
	for v := range 5 {
		l := slices.Concat(row(0, 4)[:v], row(0, 4)[v+1:])
		wantTwo(t, ringOf(5), false, l...)
	}
	wheel := with(6, 0, 1, 0, 4, 0, 5, 1, 2, 1, 5, 2, 3, 2, 5, 3, 4, 3, 5, 4, 5)
	wantTwo(t, wheel, true, row(0, 5)...)
	wantTwo(t, wheel, true, row(0, 4)...)
	wantTwo(t, wheel, true, 0, 1, 2, 5)
	wantTwo(t, wheel, true, 0, 1, 5)
	wantTwo(t, wheel, false, 0, 1, 3, 5)
	wantTwo(t, wheel, false, 0, 2, 5)
	wantTwo(t, wheel, false, 0, 1, 2)
	wantTwo(t, wheel, false, 0, 2)
}

func TestG1NamedTwice(t *testing.T) {
	g := api.Graph{N: 4, E: pairs(4)}
	for _, l := range [][]int{
		{0, 0}, {1, 0, 1}, {1, 1, 0}, {0, 1, 1}, {0, 1, 2, 0}, {0, 0, 1, 2}, {0, 1, 2, 3, 3}, {3, 1, 2, 0, 3}, {0, 1, 0, 1}, {2, 2, 2},
	} {
		wantTwo(t, g, false, l...)
	}
	wantTwo(t, ringOf(api.MaxN), false, append(row(0, api.MaxN-1), 500)...)
	wantTwo(t, g, false, make([]int, 1<<20)...)
}

func TestG1NoVertex(t *testing.T) {
	g := api.Graph{N: 4, E: pairs(4)}
	for _, no := range []int{-1, -4, 4, 5, api.MaxN, api.MaxN + 1, math.MinInt, math.MaxInt} {
		for _, l := range [][]int{{no}, {no, no}, {no, 0}, {0, no}, {no, 0, 1}, {0, no, 1}, {0, 1, no}, {0, 1, 2, 3, no}, {0, no, 0}} {
			wantTwo(t, g, false, l...)
		}
	}
	wantTwo(t, g, false, row(0, 4)...)
	wantTwo(t, g, false, row(-1, 3)...)
}

func TestG1AnyOrder(t *testing.T) {
	eachOrder(row(0, 4), func(l []int) {
		wantTwo(t, ringOf(5), true, l...)
		wantTwo(t, pathOf(5), false, l...)
		wantTwo(t, starOf(5, 3), false, l...)
	})
}

func TestG1Greatest(t *testing.T) {
	last := api.MaxN - 1
	wantTwo(t, ringOf(api.MaxN), true, row(0, last)...)
	wantTwo(t, ringOf(api.MaxN), true, row(last, 0)...)
	wantTwo(t, ringOf(api.MaxN), true, append(row(400, last), row(0, 399)...)...)
	wantTwo(t, ringOf(api.MaxN), true, 0, last)
	wantTwo(t, ringOf(api.MaxN), false, row(1, last)...)
	wantTwo(t, ringOf(api.MaxN), false, row(0, last-1)...)
	wantTwo(t, ringOf(api.MaxN), false, row(0, api.MaxN)...)
	wantTwo(t, pathOf(api.MaxN), false, row(0, last)...)
	wantTwo(t, pathOf(api.MaxN), true, last-1, last)
	wantTwo(t, starOf(api.MaxN, last), false, row(0, last)...)
	wantTwo(t, starOf(api.MaxN, last), true, last, 7)
	wantTwo(t, with(api.MaxN), false, row(0, last)...)
	wantTwo(t, full(), true, row(0, 89)...)
	wantTwo(t, full(), true, row(89, 40)...)
	wantTwo(t, full(), true, 89, 3)
	wantTwo(t, full(), false, row(0, 90)...)
	wantTwo(t, full(), false, row(0, last)...)
	wantTwo(t, full(), false, 88, 89)
}

func TestG1AllSmallGraphs(t *testing.T) {
	for n := range 5 {
		eachGraph(n, func(g api.Graph) {
			eachRow(n+1, -1, n, func(l []int) {
				if want := slowTwo(g, l); Two(g, l) != want {
					t.Errorf("Two(%v, %v) = %t", g, l, !want)
				}
			})
		})
	}
	for _, n := range []int{5, 6} {
		eachGraph(n, func(g api.Graph) {
			near := nearSets(g)
			eachRising(n, func(l []int) {
				if want := slowHolds(near, setOf(l)); Two(g, l) != want {
					t.Errorf("Two(%v, %v) = %t", g, l, !want)
				}
			})
		})
	}
}

func TestG2Example(t *testing.T) {
	wantOf(t, with(5, 0, 1, 0, 2, 1, 2, 2, 3), []int{2}, []int{0, 1, 2}, []int{2, 3})
}

func TestG2FewVertices(t *testing.T) {
	wantOf(t, with(0), nil)
	wantOf(t, with(1), nil)
	wantOf(t, with(2), nil)
	wantOf(t, with(2, 0, 1), nil, []int{0, 1})
	wantOf(t, with(3), nil)
	wantOf(t, with(3, 0, 2), nil, []int{0, 2})
	wantOf(t, with(3, 0, 2, 1, 2), []int{2}, []int{0, 2}, []int{1, 2})
	wantOf(t, ringOf(3), nil, []int{0, 1, 2})
}

// TestG2CutEnds: a cut that ends two blocks, and one that ends many.
func TestG2CutEnds(t *testing.T) {
	wantOf(t, pathOf(3), []int{1}, []int{0, 1}, []int{1, 2})
	wantOf(t, with(6, 0, 3, 1, 3, 2, 3, 3, 4, 3, 5), []int{3}, []int{0, 3}, []int{1, 3}, []int{2, 3}, []int{3, 4}, []int{3, 5})
	for middle := range 6 {
		g := starOf(6, middle)
		wantOf(t, g, []int{middle}, edgeRows(g.E)...)
	}
	// Rings and edges by turns.
	wantOf(t, with(9, 0, 4, 1, 2, 1, 4, 2, 4, 3, 4, 3, 5, 4, 5, 4, 6, 4, 7, 4, 8, 7, 8), []int{4},
		[]int{0, 4}, []int{1, 2, 4}, []int{3, 4, 5}, []int{4, 6}, []int{4, 7, 8})
}

func TestG2Bridges(t *testing.T) {
	// Between two rings, out of a ring, and a row of them.
	wantOf(t, with(6, 0, 1, 0, 2, 1, 2, 2, 3, 3, 4, 3, 5, 4, 5), []int{2, 3}, []int{0, 1, 2}, []int{2, 3}, []int{3, 4, 5})
	wantOf(t, with(5, 0, 1, 0, 4, 1, 2, 1, 3, 3, 4), []int{1}, []int{0, 1, 3, 4}, []int{1, 2})
	wantOf(t, with(8, 0, 1, 0, 5, 1, 5, 2, 3, 2, 5, 3, 4, 4, 6, 4, 7, 6, 7), []int{2, 3, 4, 5},
		[]int{0, 1, 5}, []int{2, 3}, []int{2, 5}, []int{3, 4}, []int{4, 6, 7})
}

func TestG2TwoRings(t *testing.T) {
	// With one vertex in common: the first, one between, the last.
	wantOf(t, with(5, 0, 1, 0, 2, 0, 3, 0, 4, 1, 2, 3, 4), []int{0}, []int{0, 1, 2}, []int{0, 3, 4})
	wantOf(t, with(5, 0, 1, 0, 2, 1, 2, 2, 3, 2, 4, 3, 4), []int{2}, []int{0, 1, 2}, []int{2, 3, 4})
	wantOf(t, with(5, 0, 2, 0, 4, 1, 3, 1, 4, 2, 4, 3, 4), []int{4}, []int{0, 2, 4}, []int{1, 3, 4})
	// With two in common, whether those are neighbours or not: one block.
	wantOf(t, with(4, 0, 1, 0, 2, 1, 2, 1, 3, 2, 3), nil, row(0, 3))
	wantOf(t, with(6, 0, 1, 0, 5, 1, 2, 2, 3, 2, 5, 3, 4, 4, 5), nil, row(0, 5))
	wantOf(t, with(6, 0, 1, 0, 3, 0, 5, 1, 2, 2, 4, 3, 4, 4, 5), nil, row(0, 5))
	// Joined by an edge, and by two.
	wantOf(t, with(6, 0, 2, 0, 4, 1, 3, 1, 5, 2, 3, 2, 4, 3, 5), []int{2, 3}, []int{0, 2, 4}, []int{1, 3, 5}, []int{2, 3})
	wantOf(t, with(6, 0, 1, 0, 2, 0, 3, 1, 2, 1, 4, 3, 4, 3, 5, 4, 5), nil, row(0, 5))
}

// TestG2Chains: rings that hang together one behind the other.
func TestG2Chains(t *testing.T) {
	wantOf(t, with(9, 0, 1, 0, 2, 1, 2, 2, 3, 2, 4, 3, 4, 4, 5, 4, 6, 5, 6, 6, 7, 6, 8, 7, 8), []int{2, 4, 6},
		[]int{0, 1, 2}, []int{2, 3, 4}, []int{4, 5, 6}, []int{6, 7, 8})
	g := api.Graph{N: 999}
	var cuts []int
	var blocks [][]int
	for v := 0; v+2 < g.N; v += 2 {
		g.E = append(g.E, api.Edge{A: v, B: v + 1}, api.Edge{A: v, B: v + 2}, api.Edge{A: v + 1, B: v + 2})
		blocks = append(blocks, row(v, v+2))
		if v > 0 {
			cuts = append(cuts, v)
		}
	}
	wantOf(t, g, cuts, blocks...)
}

// TestG2Stars: rings that hang together at one vertex.
func TestG2Stars(t *testing.T) {
	g := api.Graph{N: 999}
	var tips []api.Edge
	var blocks [][]int
	for v := 1; v < g.N; v += 2 {
		g.E = append(g.E, api.Edge{A: 0, B: v}, api.Edge{A: 0, B: v + 1})
		tips = append(tips, api.Edge{A: v, B: v + 1})
		blocks = append(blocks, []int{0, v, v + 1})
	}
	g.E = append(g.E, tips...)
	wantOf(t, g, []int{0}, blocks...)
}

func TestG2Trees(t *testing.T) {
	// Without any ring all edges are blocks.
	g := with(8, 0, 3, 1, 3, 2, 5, 3, 5, 4, 7, 5, 6, 5, 7)
	wantOf(t, g, []int{3, 5, 7}, edgeRows(g.E)...)
	g = api.Graph{N: api.MaxN}
	for v := 1; v < g.N; v++ {
		g.E = append(g.E, api.Edge{A: (v - 1) / 2, B: v})
	}
	wantOf(t, g, row(0, 499), edgeRows(g.E)...)
	// With rings: on 1 and on 2 of the first one hang others, and so on.
	wantOf(t, with(11, 0, 1, 0, 2, 1, 2, 1, 3, 2, 4, 2, 5, 3, 6, 3, 7, 4, 5, 5, 8, 6, 7, 7, 9, 7, 10, 9, 10), []int{1, 2, 3, 5, 7},
		[]int{0, 1, 2}, []int{1, 3}, []int{2, 4, 5}, []int{3, 6, 7}, []int{5, 8}, []int{7, 9, 10})
}

func TestG2SeveralComponents(t *testing.T) {
	wantOf(t, with(6, 0, 1, 2, 3, 4, 5), nil, []int{0, 1}, []int{2, 3}, []int{4, 5})
	wantOf(t, with(6, 0, 3, 1, 4, 2, 5), nil, []int{0, 3}, []int{1, 4}, []int{2, 5})
	// 2 and 7 have no neighbours.
	wantOf(t, with(10, 0, 6, 0, 9, 1, 4, 3, 5, 3, 8, 5, 8, 6, 9), nil, []int{0, 6, 9}, []int{1, 4}, []int{3, 5, 8})
	wantOf(t, with(10, 1, 5, 1, 6, 3, 4, 3, 8, 3, 9, 4, 8, 5, 6, 5, 9, 6, 9), []int{3, 9},
		[]int{1, 5, 6, 9}, []int{3, 4, 8}, []int{3, 9})
	wantOf(t, with(10, 0, 2, 0, 4, 1, 3, 1, 5, 2, 4, 4, 6, 5, 7), []int{1, 4, 5},
		[]int{0, 2, 4}, []int{1, 3}, []int{1, 5}, []int{4, 6}, []int{5, 7})
}

// TestG2NoNeighbours: vertices without neighbours are in no block, wherever
// they stand.
func TestG2NoNeighbours(t *testing.T) {
	for n := range 12 {
		wantOf(t, with(n), nil)
	}
	wantOf(t, with(api.MaxN), nil)
	wantOf(t, with(7, 1, 3, 1, 5, 3, 5), nil, []int{1, 3, 5})
	wantOf(t, with(7, 1, 3, 3, 5), []int{3}, []int{1, 3}, []int{3, 5})
	wantOf(t, with(api.MaxN, 0, api.MaxN-1), nil, []int{0, api.MaxN - 1})
}

// TestG2Orders: of cuts, of a block's vertices, and of blocks by their first
// vertices, then their second ones.
func TestG2Orders(t *testing.T) {
	// One comes by these the other way round: what hangs far off is told
	// first if it stands first.
	wantOf(t, with(7, 0, 6, 1, 2, 1, 4, 2, 4, 3, 5, 3, 6, 4, 5), []int{3, 4, 5, 6},
		[]int{0, 6}, []int{1, 2, 4}, []int{3, 5}, []int{3, 6}, []int{4, 5})
	// All first vertices are the same: the second ones decide, however great
	// and however many those behind them are.
	wantOf(t, with(9, 0, 1, 0, 2, 0, 3, 0, 4, 0, 5, 0, 7, 0, 8, 1, 8, 2, 6, 4, 5, 6, 7), []int{0},
		[]int{0, 1, 8}, []int{0, 2, 6, 7}, []int{0, 3}, []int{0, 4, 5})
	// Numbers are held against each other, not digits.
	wantOf(t, with(12, 0, 2, 0, 10, 1, 10, 2, 11), []int{0, 2, 10}, []int{0, 2}, []int{0, 10}, []int{1, 10}, []int{2, 11})
	// A ring whose vertices follow each other in no order.
	wantOf(t, with(8, 0, 3, 0, 5, 1, 5, 1, 6, 2, 4, 2, 6, 3, 7, 4, 7), nil, row(0, 7))
	wantOf(t, with(8, 0, 3, 0, 5, 1, 5, 2, 4, 2, 6, 3, 6, 3, 7, 4, 7), []int{0, 3, 5},
		[]int{0, 3}, []int{0, 5}, []int{1, 5}, []int{2, 3, 4, 6, 7})
}

func TestG2Greatest(t *testing.T) {
	last := api.MaxN - 1
	wantOf(t, pathOf(api.MaxN), row(1, last-1), edgeRows(pathOf(api.MaxN).E)...)
	wantOf(t, ringOf(api.MaxN), nil, row(0, last))
	wantOf(t, starOf(api.MaxN, last), []int{last}, edgeRows(starOf(api.MaxN, last).E)...)
	wantOf(t, starOf(api.MaxN, 0), []int{0}, edgeRows(starOf(api.MaxN, 0).E)...)
	wantOf(t, full(), nil, row(0, 89))
	// As many edges as there may be, in two blocks with a vertex in common,
	// and none left over.
	g := api.Graph{N: api.MaxN, E: pairs(80)}
	for v := 79; len(g.E) < api.MaxM-2; v++ {
		g.E = append(g.E, api.Edge{A: v, B: v + 1}, api.Edge{A: v, B: v + 2})
	}
	end := g.E[len(g.E)-1].B
	g.E = append(g.E, api.Edge{A: end - 1, B: end}, api.Edge{A: end, B: last})
	if len(g.E) != api.MaxM {
		t.Fatalf("%d edges", len(g.E))
	}
	wantOf(t, g, []int{79, end}, row(0, 79), row(79, end), []int{end, last})
	// Two paths of half the length, which lie between each other.
	var rows [][]int
	g = api.Graph{N: api.MaxN}
	for v := 0; v+2 < g.N; v++ {
		g.E = append(g.E, api.Edge{A: v, B: v + 2})
		rows = append(rows, []int{v, v + 2})
	}
	wantOf(t, g, row(2, last-2), rows...)
}

func TestG2AllSmallGraphs(t *testing.T) {
	for n := range 6 {
		eachGraph(n, func(g api.Graph) { wantTree(t, g, slowOf(g)) })
	}
	eachGraph(6, func(g api.Graph) {
		if want := slowOf(g); !same(Of(g), want) {
			t.Errorf("Of(%v) = %v, want %v", g, Of(g), want)
		}
	})
}

// grown is a graph that is put together of blocks, which are known.
type grown struct {
	seed   int
	graph  api.Graph
	blocks [][]int
}

// pick tells a number below n, another one each time.
func (x *grown) pick(n int) int {
	x.seed = (x.seed*1103515245 + 12345) % (1 << 31)
	return x.seed >> 12 % n
}

// hang puts a block of v and k new vertices on: an edge, or a ring with edges
// from v to some of its others.
func (x *grown) hang(v, k int) {
	first := x.graph.N
	x.graph.N += k
	ring := append([]int{v}, row(first, first+k-1)...)
	for i := range k {
		x.graph.E = append(x.graph.E, api.Edge{A: ring[i], B: ring[i+1]})
		if i > 0 && (i == k-1 || x.pick(3) == 0) {
			x.graph.E = append(x.graph.E, api.Edge{A: v, B: ring[i+1]})
		}
	}
	x.blocks = append(x.blocks, ring)
}

// named tells the graph by other numbers, of which each belongs to one of the
// old ones as long as step and n have no divisor in common; and its tree.
func (x *grown) named(step, by int) (api.Graph, Tree) {
	number := func(v int) int { return (v*step + by) % x.graph.N }
	g := api.Graph{N: x.graph.N}
	for _, e := range x.graph.E {
		a, b := number(e.A), number(e.B)
		g.E = append(g.E, api.Edge{A: min(a, b), B: max(a, b)})
	}
	slices.SortFunc(g.E, func(x, y api.Edge) int { return (x.A-y.A)*2*api.MaxN + x.B - y.B })
	var tree Tree
	times := make([]int, g.N)
	for _, block := range x.blocks {
		var renamed []int
		for _, v := range block {
			renamed = append(renamed, number(v))
			times[number(v)]++
		}
		slices.Sort(renamed)
		tree.Blocks = append(tree.Blocks, renamed)
	}
	slices.SortFunc(tree.Blocks, func(x, y []int) int { return (x[0]-y[0])*2*api.MaxN + x[1] - y[1] })
	for v := range g.N {
		if times[v] > 1 {
			tree.Cuts = append(tree.Cuts, v)
		}
	}
	return g, tree
}

// growing puts graphs of n vertices together, most of whose blocks have at
// most k new vertices.
func growing(seed, n, k int) *grown {
	x := &grown{seed: seed, graph: api.Graph{N: 1}}
	for x.graph.N < n {
		more := min(1+x.pick(k), n-x.graph.N)
		switch x.pick(9) {
		case 0:
			x.graph.N++ // a component begins
		case 1, 2, 3:
			x.hang(x.graph.N-1, more)
		case 4:
			x.hang(0, more)
		default:
			x.hang(x.pick(x.graph.N), more)
		}
	}
	return x
}

func TestG2Grown(t *testing.T) {
	for seed := range 40 {
		for _, n := range []int{7, 30, 211, api.MaxN} {
			for _, k := range []int{1, 2, 5, 60} {
				x := growing(seed, n, k)
				for _, step := range []int{1, n - 1, 13} {
					g, want := x.named(step, seed)
					if len(g.E) > api.MaxM {
						t.Fatalf("%d edges", len(g.E))
					}
					wantTree(t, g, want)
				}
			}
		}
	}
}

// pieces tells how many components there are without the vertex out.
func pieces(near [][]int, out int) int {
	seen := make([]bool, len(near))
	many := 0
	for v := range near {
		if v == out || seen[v] {
			continue
		}
		many++
		seen[v] = true
		for open := []int{v}; len(open) > 0; {
			at := open[len(open)-1]
			open = open[:len(open)-1]
			for _, w := range near[at] {
				if w != out && !seen[w] {
					seen[w] = true
					open = append(open, w)
				}
			}
		}
	}
	return many
}

// wantFollows holds an answer against what follows, by the edges alone.
func wantFollows(t *testing.T, g api.Graph) {
	t.Helper()
	tree := Of(g)
	near := make([][]int, g.N)
	for _, e := range g.E {
		near[e.A], near[e.B] = append(near[e.A], e.B), append(near[e.B], e.A)
	}
	blocksOf := make([][]int, g.N)
	for i, block := range tree.Blocks {
		if !Two(g, block) {
			t.Errorf("of %s: %s does not hold twice", brief(g), brief(block))
		}
		for _, v := range block {
			blocksOf[v] = append(blocksOf[v], i)
		}
	}
	common := func(a, b int) int {
		both := slices.Clone(blocksOf[a])
		return len(slices.DeleteFunc(both, func(i int) bool { return !slices.Contains(blocksOf[b], i) }))
	}
	for _, e := range g.E {
		if common(e.A, e.B) != 1 {
			t.Errorf("of %s: the edge %v is in %d blocks", brief(g), e, common(e.A, e.B))
		}
	}
	for i, x := range tree.Blocks {
		for _, y := range tree.Blocks[:i] {
			if len(slices.DeleteFunc(slices.Clone(x), func(v int) bool { return !slices.Contains(y, v) })) > 1 {
				t.Errorf("of %s: the blocks %s and %s", brief(g), brief(x), brief(y))
			}
		}
	}
	for v := range g.N {
		// Without a vertex that has neighbours there are as many pieces as
		// with it, unless its component falls apart.
		falls := len(near[v]) > 0 && pieces(near, v) > pieces(near, -1)
		if slices.Contains(tree.Cuts, v) != falls || falls != (len(blocksOf[v]) > 1) || (len(near[v]) == 0) != (len(blocksOf[v]) == 0) {
			t.Errorf("of %s: %d falls apart: %t, is in the blocks %v, the cuts are %s", brief(g), v, falls, blocksOf[v], brief(tree.Cuts))
		}
	}
	if !slices.IsSorted(tree.Cuts) {
		t.Errorf("of %s: the cuts %s", brief(g), brief(tree.Cuts))
	}
}

func TestWhatFollows(t *testing.T) {
	for n := range 6 {
		eachGraph(n, func(g api.Graph) { wantFollows(t, g) })
	}
	for _, g := range []api.Graph{pathOf(300), ringOf(300), starOf(300, 170), full(), with(api.MaxN)} {
		wantFollows(t, g)
	}
	for seed := range 4 {
		g, _ := growing(seed, 400, 6).named(7, seed)
		wantFollows(t, g)
	}
}

// TestMoreThanABlock: a block and any one other vertex do not hold twice.
func TestMoreThanABlock(t *testing.T) {
	for seed := range 5 {
		g, tree := growing(seed, 60, 8).named(7, seed)
		for _, block := range tree.Blocks {
			wantTwo(t, g, true, block...)
			for v := range g.N {
				if !slices.Contains(block, v) {
					wantTwo(t, g, false, append([]int{v}, block...)...)
				}
			}
		}
	}
}

func TestNotRight(t *testing.T) {
	for name, g := range notRight() {
		t.Run(name, func(t *testing.T) {
			wantOf(t, g, nil)
			for _, l := range [][]int{nil, {}, {0}, {0, 1}, {1, 0}, {0, 1, 2}, {2, 1, 0}, {0, 0}, {-1, 0}, {0, 1, math.MaxInt}, row(0, 89), row(0, 100), row(0, api.MaxN)} {
				wantTwo(t, g, false, l...)
			}
		})
	}
}

// spoil writes over a list, also behind what is told of it.
func spoil(l []int) {
	l = l[:cap(l)]
	for i := range l {
		l[i] = -7
	}
}

// lists tells all lists of numbers in an answer.
func lists(x Tree) [][]int {
	return append([][]int{x.Cuts}, x.Blocks...)
}

func samples() []api.Graph {
	one, _ := growing(3, 50, 4).named(7, 5)
	two, _ := growing(4, 50, 1).named(1, 0)
	return []api.Graph{
		with(5, 0, 1, 0, 2, 1, 2, 2, 3), with(0), with(4), ringOf(9), pathOf(9), starOf(9, 4), api.Graph{N: 6, E: pairs(6)}, one, two,
	}
}

// TestR1PartsOfAnAnswer: each list may be written over, also behind its end,
// or be written on, without the others being other ones.
func TestR1PartsOfAnAnswer(t *testing.T) {
	for _, g := range samples() {
		want := kept(Of(g))
		for i := range lists(want) {
			got := Of(g)
			l := lists(got)
			spoil(l[i])
			_ = append(l[i][:len(l[i]):len(l[i])], -7)
			for k, other := range lists(want) {
				if k != i && !slices.Equal(l[k], other) {
					t.Errorf("of %v: with list %d written over, list %d is %v, not %v", g, i, k, l[k], other)
				}
			}
			wantTree(t, g, want)
		}
		got := Of(g)
		clear(got.Blocks[:cap(got.Blocks)])
		wantTree(t, g, want)
	}
}

// TestR1EarlierAnswers: they stay what they are, whatever is written over
// later answers, or over what was handed in.
func TestR1EarlierAnswers(t *testing.T) {
	for _, given := range samples() {
		g := api.Graph{N: given.N, E: append(make([]api.Edge, 0, len(given.E)+9), given.E...)}
		behind := g.E[len(g.E):cap(g.E)]
		earlier := Of(g)
		want := kept(earlier)
		for _, l := range lists(Of(g)) {
			spoil(l)
		}
		if !slices.Equal(g.E, given.E) || slices.ContainsFunc(behind, func(e api.Edge) bool { return e != api.Edge{} }) {
			t.Errorf("of %v is left %v, and behind it %v", given, g.E, behind)
		}
		wantTree(t, g, want)
		clear(g.E[:cap(g.E)])
		if !same(earlier, want) {
			t.Errorf("what was handed in written over, of %v is told %v, not %v", given, earlier, want)
		}
	}
}

// TestR1NotKept: the same list with other edges, or other vertices, in it.
func TestR1NotKept(t *testing.T) {
	g := ringOf(5)
	wantOf(t, g, nil, row(0, 4))
	copy(g.E, with(5, 0, 1, 0, 2, 1, 2, 2, 3, 2, 4).E)
	wantOf(t, g, []int{2}, []int{0, 1, 2}, []int{2, 3}, []int{2, 4})
	wantTwo(t, g, false, row(0, 4)...)
	g.E = g.E[:4]
	wantOf(t, g, []int{2}, []int{0, 1, 2}, []int{2, 3})
	g.E[3] = api.Edge{A: 0, B: 1}
	wantOf(t, g, nil)
	l := []int{0, 1, 2, 4}
	wantTwo(t, ringOf(4), true, 0, 1, 2, 3)
	wantTwo(t, ringOf(4), false, l...)
	wantTwo(t, ringOf(5), false, l[:3]...)
	wantTwo(t, ringOf(3), true, l[:3]...)
	l[2] = 1
	wantTwo(t, ringOf(3), false, l[:3]...)
	wantTwo(t, ringOf(3), true, l[:2]...)
	if !slices.Equal(l, []int{0, 1, 1, 4}) {
		t.Errorf("of the list is left %v", l)
	}
}

func TestR4SameAnswers(t *testing.T) {
	g, want := growing(9, 300, 3).named(7, 2)
	for range 20 {
		Of(ringOf(9))
		Two(pathOf(4), row(0, 3))
		wantTree(t, g, want)
		wantTwo(t, g, true, want.Blocks[0]...)
	}
}

func FuzzBlock(f *testing.F) {
	f.Add(5, []byte{0, 1, 0, 2, 1, 2, 2, 3}, []byte{0, 2, 1})
	f.Add(7, []byte{0, 5, 2, 5, 2, 6, 3, 5, 3, 6, 1, 4, 4, 6}, []byte{3, 5, 6, 2})
	f.Add(9, []byte("\x00\x03\x00\x04\x03\x05\x04\x05\x05\x08\x01\x06\x02\x07"), []byte{3, 0, 0, 9, 255})
	f.Add(-3, []byte{0, 1}, []byte{})
	f.Fuzz(func(t *testing.T, n int, ends, numbers []byte) {
		n = max(n%10, 0) // the slow way goes through all sets
		chosen := map[api.Edge]bool{}
		for i := 0; i+1 < len(ends); i += 2 {
			a, b := int(ends[i]), int(ends[i+1])
			chosen[api.Edge{A: min(a, b), B: max(a, b)}] = true
		}
		g := api.Graph{N: n}
		for _, e := range pairs(n) {
			if chosen[e] {
				g.E = append(g.E, e)
			}
		}
		var l []int
		for _, b := range numbers[:min(len(numbers), 20)] {
			l = append(l, int(int8(b)))
		}
		wantTree(t, g, slowOf(g))
		wantTwo(t, g, slowTwo(g, l), l...)
	})
}
