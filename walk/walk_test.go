package walk

import (
	"fmt"
	"math"
	"slices"
	"testing"

	"carcanet/api"
)

// with tells the graph whose edges have the ends l, one behind the other.
func with(n int, l ...int) api.Graph {
	g := api.Graph{N: n}
	for i := 0; i+1 < len(l); i += 2 {
		g.E = append(g.E, api.Edge{A: l[i], B: l[i+1]})
	}
	return g
}

// row tells the numbers from first to last, also if they fall.
func row(first, last int) []int {
	if first > last {
		out := row(last, first)
		slices.Reverse(out)
		return out
	}
	out := []int{}
	for v := first; v <= last; v++ {
		out = append(out, v)
	}
	return out
}

func pathOf(n int) api.Graph {
	g := api.Graph{N: n}
	for v := 0; v+1 < n; v++ {
		g.E = append(g.E, api.Edge{A: v, B: v + 1})
	}
	return g
}

// ringOf is pathOf, and the first and the last vertex are neighbours.
func ringOf(n int) api.Graph {
	g := pathOf(n)
	g.E = slices.Insert(g.E, 1, api.Edge{A: 0, B: n - 1})
	return g
}

// pairs tells all pairs of n vertices, rising: what a full graph's edges are.
func pairs(n int) []api.Edge {
	var out []api.Edge
	for a := range n {
		for b := a + 1; b < n; b++ {
			out = append(out, api.Edge{A: a, B: b})
		}
	}
	return out
}

// grid has k rows of k vertices, which count on from row to row.
func grid(k int) api.Graph {
	g := api.Graph{N: k * k}
	for v := range g.N {
		if v%k < k-1 {
			g.E = append(g.E, api.Edge{A: v, B: v + 1})
		}
		if v+k < g.N {
			g.E = append(g.E, api.Edge{A: v, B: v + k})
		}
	}
	return g
}

// eachGraph goes through all graphs of n vertices.
func eachGraph(n int, visit func(g api.Graph)) {
	all := pairs(n)
	for chosen := range 1 << len(all) {
		g := api.Graph{N: n}
		for i, e := range all {
			if chosen>>i&1 == 1 {
				g.E = append(g.E, e)
			}
		}
		visit(g)
	}
}

// eachRow goes through all rows of at most m numbers from low to high.
func eachRow(m, low, high int, visit func(l []int)) {
	var l []int
	var more func()
	more = func() {
		visit(l)
		if len(l) == m {
			return
		}
		for v := low; v <= high; v++ {
			l = append(l, v)
			more()
			l = l[:len(l)-1]
		}
	}
	more()
}

// brief tells what stands in a message, so that great graphs don't fill it.
func brief(what ...any) string {
	text := fmt.Sprint(what...)
	if len(text) > 400 {
		return text[:400] + " .."
	}
	return text
}

// beside tells by the edges whether a and b are neighbours.
func beside(g api.Graph, a, b int) bool {
	return slices.Contains(g.E, api.Edge{A: min(a, b), B: max(a, b)})
}

// proper tells whether l has numbers, all of them vertices, none twice.
func proper(g api.Graph, l []int) bool {
	for i, v := range l {
		if v < 0 || v >= g.N || slices.Contains(l[:i], v) {
			return false
		}
	}
	return len(l) > 0
}

func slowIsPath(g api.Graph, p []int) bool {
	for i := 1; i < len(p); i++ {
		if !beside(g, p[i-1], p[i]) {
			return false
		}
	}
	return proper(g, p)
}

// slowIsCycle: what is a path of three or more, and stays a path if its first
// one is put behind the others, is a cycle.
func slowIsCycle(g api.Graph, c []int) bool {
	return len(c) > 2 && slowIsPath(g, c) && slowIsPath(g, append(slices.Clone(c[1:]), c[0]))
}

// slowPaths tells all paths from a to b.
func slowPaths(g api.Graph, a, b int) [][]int {
	var out [][]int
	var more func(p []int)
	more = func(p []int) {
		if !slowIsPath(g, p) {
			return
		}
		if p[len(p)-1] == b {
			out = append(out, slices.Clone(p))
		}
		for v := range g.N {
			more(append(slices.Clone(p), v))
		}
	}
	more([]int{a})
	return out
}

// slowRoute tells which of the paths the route away from those is.
func slowRoute(paths [][]int, away []int) []int {
	var best []int
	for _, p := range paths {
		if slices.ContainsFunc(p, func(v int) bool { return slices.Contains(away, v) }) {
			continue
		}
		if best == nil || len(p) < len(best) || len(p) == len(best) && slices.Compare(p, best) < 0 {
			best = p
		}
	}
	return best
}

// slowTurn: of all rows that are this ring, it is the least one.
func slowTurn(c []int) []int {
	for i, v := range c {
		if slices.Contains(c[:i], v) {
			return c
		}
	}
	if len(c) < 3 {
		return c
	}
	best := c
	for i := range c {
		r := slices.Concat(c[i:], c[:i])
		if slices.Compare(r, best) < 0 {
			best = slices.Clone(r)
		}
		slices.Reverse(r)
		if slices.Compare(r, best) < 0 {
			best = r
		}
	}
	return best
}

// slowWhole: however l is cut into two, an edge leads from one to the other.
func slowWhole(g api.Graph, l []int) bool {
	if !proper(g, l) {
		return false
	}
	for chosen := 1; chosen < 1<<len(l)-1; chosen++ {
		joined := false
		for i, v := range l {
			for k, w := range l {
				joined = joined || chosen>>i&1 == 1 && chosen>>k&1 == 0 && beside(g, v, w)
			}
		}
		if !joined {
			return false
		}
	}
	return true
}

// slowApart holds each two places against each other.
func slowApart(l [][]int) bool {
	for i, x := range l {
		for k := range x {
			inner := k != 0 && k != len(x)-1
			for j, y := range l {
				for m := range y {
					if inner && (i != j || k != m) && x[k] == y[m] {
						return false
					}
				}
			}
		}
	}
	return true
}

func wantPath(t *testing.T, g api.Graph, p []int, path, cycle bool) {
	t.Helper()
	edges, before := slices.Clone(g.E), slices.Clone(p)
	if got := IsPath(g, p); got != path {
		t.Errorf("IsPath(%s, %s) = %t", brief(g), brief(p), got)
	}
	if got := IsCycle(g, p); got != cycle {
		t.Errorf("IsCycle(%s, %s) = %t", brief(g), brief(p), got)
	}
	if !slices.Equal(g.E, edges) || !slices.Equal(p, before) {
		t.Errorf("of %s and %s is left %s and %s", brief(edges), brief(before), brief(g.E), brief(p))
	}
}

func wantRoute(t *testing.T, g api.Graph, a, b int, away []int, want ...int) {
	t.Helper()
	edges, before := slices.Clone(g.E), slices.Clone(away)
	if got := Route(g, a, b, away); !slices.Equal(got, want) {
		t.Errorf("Route(%s, %d, %d, %s) = %s, want %s", brief(g), a, b, brief(away), brief(got), brief(want))
	}
	if !slices.Equal(g.E, edges) || !slices.Equal(away, before) {
		t.Errorf("of %s and %s is left %s and %s", brief(edges), brief(before), brief(g.E), brief(away))
	}
}

func wantTurn(t *testing.T, c []int, want ...int) {
	t.Helper()
	before := slices.Clone(c)
	if got := Turn(c); !slices.Equal(got, want) {
		t.Errorf("Turn(%s) = %s, want %s", brief(c), brief(got), brief(want))
	}
	if !slices.Equal(c, before) {
		t.Errorf("Turn left %s of %s", brief(c), brief(before))
	}
}

func wantWhole(t *testing.T, g api.Graph, want bool, l ...int) {
	t.Helper()
	edges, before := slices.Clone(g.E), slices.Clone(l)
	if got := Whole(g, l); got != want {
		t.Errorf("Whole(%s, %s) = %t", brief(g), brief(l), got)
	}
	if !slices.Equal(g.E, edges) || !slices.Equal(l, before) {
		t.Errorf("of %s and %s is left %s and %s", brief(edges), brief(before), brief(g.E), brief(l))
	}
}

func wantApart(t *testing.T, want bool, l ...[]int) {
	t.Helper()
	before := make([][]int, len(l))
	for i := range l {
		before[i] = slices.Clone(l[i])
	}
	if got := Apart(l); got != want {
		t.Errorf("Apart(%s) = %t", brief(l), got)
	}
	if !slices.EqualFunc(l, before, slices.Equal[[]int]) {
		t.Errorf("Apart left %s of %s", brief(l), brief(before))
	}
}

// notRight tells graphs that may not be, in each of the ways. But for that,
// most of them have vertices 0, 1 and 2, and 0 and 1 beside each other.
func notRight() map[string]api.Graph {
	return map[string]api.Graph{
		"fewer than no vertices":     with(-1),
		"fewer, with an edge":        with(-1, 0, 1),
		"far fewer":                  with(math.MinInt, 0, 1),
		"one vertex too many":        with(api.MaxN + 1),
		"too many, with edges":       with(api.MaxN+1, 0, 1, 0, 2, 1, 2),
		"far too many":               with(math.MaxInt, 0, 1, 0, 2, 1, 2),
		"one edge too many":          {N: 101, E: pairs(101)[:api.MaxM+1]},
		"the greater first":          with(3, 1, 0),
		"the greater first, later":   with(3, 0, 1, 2, 1),
		"a vertex beside itself":     with(3, 0, 0, 0, 1),
		"below the first vertex":     with(3, -1, 0, 0, 1),
		"the second one below it":    with(3, 0, -1, 0, 1),
		"both below it":              with(3, -2, -1, 0, 1),
		"behind the last vertex":     with(3, 0, 1, 0, 3),
		"both behind it":             with(3, 0, 1, 3, 4),
		"far behind it":              with(3, 0, 1, 0, math.MaxInt),
		"far below":                  with(3, math.MinInt, 1),
		"an edge without vertices":   with(0, 0, 1),
		"an edge of a single vertex": with(1, 0, 1),
		"the first vertices fall":    with(3, 1, 2, 0, 1),
		"the second ones fall":       with(3, 0, 2, 0, 1, 1, 2),
		"an edge twice":              with(3, 0, 1, 0, 1, 0, 2, 1, 2),
		"twice, turned round":        with(3, 0, 1, 1, 0, 1, 2),
		"twice, others between":      with(3, 0, 1, 0, 2, 0, 1),
		"wrong at the end only":      with(4, 0, 1, 0, 2, 1, 2, 1, 4),
	}
}

func TestE1Paths(t *testing.T) {
	g := with(6, 0, 1, 0, 4, 1, 2, 2, 3, 3, 4)
	wantPath(t, g, []int{0, 1, 2}, true, false)
	wantPath(t, g, []int{2, 1, 0, 4}, true, false)
	wantPath(t, g, []int{4, 3}, true, false)
	wantPath(t, g, []int{0, 1, 2, 3, 4}, true, true)
	wantPath(t, g, []int{3, 2, 1, 0, 4}, true, true)
	wantPath(t, g, []int{0, 1, 3}, false, false)
	wantPath(t, g, []int{1, 4, 0}, false, false)
	wantPath(t, g, []int{0, 4, 5}, false, false)
}

func TestE1FewVertices(t *testing.T) {
	g := ringOf(3)
	wantPath(t, g, nil, false, false)
	wantPath(t, g, []int{}, false, false)
	for v := range 3 {
		wantPath(t, g, []int{v}, true, false)
		wantPath(t, g, []int{v, v}, false, false)
		wantPath(t, g, []int{v, (v + 1) % 3}, true, false)
		wantPath(t, g, []int{(v + 1) % 3, v}, true, false)
		wantPath(t, g, []int{v, (v + 1) % 3, (v + 2) % 3}, true, true)
		wantPath(t, g, []int{v, (v + 2) % 3, (v + 1) % 3}, true, true)
	}
	wantPath(t, with(2), []int{0, 1}, false, false)
	wantPath(t, with(1), []int{0}, true, false)
	wantPath(t, with(0), nil, false, false)
	wantPath(t, with(0), []int{0}, false, false)
}

func TestE1Twice(t *testing.T) {
	g := with(5, 0, 1, 0, 2, 0, 3, 1, 2, 1, 3, 2, 3)
	wantPath(t, g, []int{0, 1, 0}, false, false)
	wantPath(t, g, []int{0, 1, 2, 0}, false, false)
	wantPath(t, g, []int{0, 1, 2, 3, 0}, false, false)
	wantPath(t, g, []int{0, 1, 2, 1, 3}, false, false)
	wantPath(t, g, []int{0, 1, 2, 3, 1}, false, false)
	wantPath(t, g, []int{0, 1, 2, 0, 3}, false, false)
	wantPath(t, g, []int{0, 1, 1, 2}, false, false)
	wantPath(t, g, []int{0, 1, 2, 2}, false, false)
	wantPath(t, g, []int{4, 4}, false, false)
}

func TestE1LastAndFirst(t *testing.T) {
	g := with(4, 0, 1, 0, 2, 1, 2, 2, 3)
	wantPath(t, g, []int{0, 1, 2}, true, true)
	wantPath(t, g, []int{0, 1, 2, 3}, true, false)
	wantPath(t, g, []int{3, 2, 1, 0}, true, false)
	wantPath(t, g, []int{1, 2, 3}, true, false)
	wantPath(t, pathOf(9), row(0, 8), true, false)
	wantPath(t, ringOf(9), row(0, 8), true, true)
	wantPath(t, ringOf(9), row(0, 7), true, false)
}

func TestE1NoVertex(t *testing.T) {
	g := ringOf(4)
	for _, no := range []int{-1, -4, 4, 5, api.MaxN, math.MinInt, math.MaxInt} {
		wantPath(t, g, []int{no}, false, false)
		wantPath(t, g, []int{no, 0}, false, false)
		wantPath(t, g, []int{0, no}, false, false)
		wantPath(t, g, []int{0, no, 2}, false, false)
		wantPath(t, g, []int{no, 0, 1, 2, 3}, false, false)
		wantPath(t, g, []int{0, 1, 2, 3, no}, false, false)
		wantPath(t, g, []int{no, no, no}, false, false)
	}
}

func TestE1Greatest(t *testing.T) {
	last := api.MaxN - 1
	g := ringOf(api.MaxN)
	wantPath(t, g, row(0, last), true, true)
	wantPath(t, g, row(last, 0), true, true)
	wantPath(t, g, append(row(7, last), row(0, 6)...), true, true)
	wantPath(t, g, append(row(0, last), 0), false, false)
	wantPath(t, g, row(0, api.MaxN), false, false)
	wantPath(t, pathOf(api.MaxN), row(0, last), true, false)
	full := api.Graph{N: api.MaxN, E: pairs(101)[:api.MaxM]}
	wantPath(t, full, append(row(0, 53), 100), true, true)
	wantPath(t, full, []int{0, 99, 100}, false, false)
	wantPath(t, full, row(0, 101), false, false)
	wantPath(t, g, make([]int, 1<<20), false, false)
}

func TestE1AllSmallGraphs(t *testing.T) {
	for n := range 5 {
		eachGraph(n, func(g api.Graph) {
			eachRow(min(n+1, 4), -1, n, func(l []int) {
				wantPath(t, g, l, slowIsPath(g, l), slowIsCycle(g, l))
			})
		})
	}
	eachGraph(4, func(g api.Graph) {
		eachRow(5, 0, 3, func(l []int) {
			wantPath(t, g, l, slowIsPath(g, l), slowIsCycle(g, l))
		})
	})
}

func TestE2Example(t *testing.T) {
	wantRoute(t, ringOf(4), 0, 2, nil, 0, 1, 2)
	wantRoute(t, ringOf(4), 0, 2, []int{1}, 0, 3, 2)
}

func TestE2Ends(t *testing.T) {
	g := with(5, 0, 1, 0, 2, 1, 2, 3, 4)
	for v := range 5 {
		wantRoute(t, g, v, v, nil, v)
		wantRoute(t, g, v, v, []int{v})
		wantRoute(t, g, v, v, []int{(v + 1) % 5}, v)
	}
	wantRoute(t, g, 0, 2, nil, 0, 2)
	wantRoute(t, g, 2, 0, nil, 2, 0)
	wantRoute(t, g, 2, 1, []int{0, 3, 4}, 2, 1)
	wantRoute(t, g, 0, 3, nil)
	wantRoute(t, g, 4, 1, nil)
	wantRoute(t, with(2), 0, 1, nil)
	wantRoute(t, with(1), 0, 0, nil, 0)
	wantRoute(t, with(0), 0, 0, nil)
}

func TestE2Fewest(t *testing.T) {
	// The way by the lesser vertices is the longer one.
	g := with(7, 0, 1, 0, 6, 1, 2, 2, 3, 3, 4, 4, 6)
	wantRoute(t, g, 0, 4, nil, 0, 6, 4)
	wantRoute(t, g, 4, 0, nil, 4, 6, 0)
	wantRoute(t, g, 0, 4, []int{6}, 0, 1, 2, 3, 4)
	wantRoute(t, g, 4, 0, []int{6}, 4, 3, 2, 1, 0)
	wantRoute(t, g, 0, 3, nil, 0, 1, 2, 3)
	wantRoute(t, g, 0, 3, []int{1}, 0, 6, 4, 3)
}

func TestE2Least(t *testing.T) {
	// The first numbers decide, however great those behind them are.
	g := with(8, 0, 1, 0, 2, 1, 6, 2, 3, 3, 7, 6, 7)
	wantRoute(t, g, 0, 7, nil, 0, 1, 6, 7)
	wantRoute(t, g, 7, 0, nil, 7, 3, 2, 0)
	// Of two that begin alike, the later numbers decide.
	h := with(8, 0, 5, 2, 5, 2, 7, 3, 5, 3, 7)
	wantRoute(t, h, 0, 7, nil, 0, 5, 2, 7)
	wantRoute(t, h, 7, 0, nil, 7, 2, 5, 0)
	wantRoute(t, h, 0, 7, []int{2}, 0, 5, 3, 7)
	// The least neighbour of the first leads nowhere, or by one edge more.
	wantRoute(t, with(7, 0, 1, 0, 4, 0, 5, 4, 6, 5, 6), 0, 6, nil, 0, 4, 6)
	wantRoute(t, with(8, 0, 1, 0, 4, 0, 5, 1, 2, 2, 6, 4, 6, 5, 6), 0, 6, nil, 0, 4, 6)
	wantRoute(t, with(6, 1, 3, 1, 5, 2, 3, 2, 5), 3, 5, nil, 3, 1, 5)
}

func TestE2Grid(t *testing.T) {
	k := 30
	g, last := grid(k), k*k-1
	left, right := []int{}, []int{} // the outermost columns
	for v := 0; v < k*k; v += k {
		left, right = append(left, v), append(right, v+k-1)
	}
	down := slices.Concat(row(0, k-1), right[1:])
	wantRoute(t, g, 0, last, nil, down...)
	up := slices.Clone(down)
	slices.Reverse(up)
	wantRoute(t, g, last, 0, nil, up...)
	wantRoute(t, g, 0, left[k-1], nil, left...)
	wantRoute(t, g, right[0], left[k-1], nil, slices.Concat(row(k-1, 0), left[1:])...)
	wantRoute(t, g, 0, last, []int{1}, slices.Concat([]int{0}, row(k, 2*k-1), right[2:])...)
	wantRoute(t, g, 0, last, []int{k, 1})
}

func TestE2Away(t *testing.T) {
	g := with(7, 0, 1, 0, 2, 0, 3, 1, 6, 2, 6, 3, 6, 4, 5)
	wantRoute(t, g, 0, 6, nil, 0, 1, 6)
	wantRoute(t, g, 0, 6, []int{}, 0, 1, 6)
	wantRoute(t, g, 0, 6, []int{1}, 0, 2, 6)
	wantRoute(t, g, 0, 6, []int{2}, 0, 1, 6)
	wantRoute(t, g, 0, 6, []int{2, 1}, 0, 3, 6)
	wantRoute(t, g, 0, 6, []int{2, 1, 2, 1, 1}, 0, 3, 6)
	wantRoute(t, g, 0, 6, []int{3, 1, 2})
	wantRoute(t, g, 0, 6, []int{0})
	wantRoute(t, g, 0, 6, []int{6})
	wantRoute(t, g, 0, 1, []int{1})
	wantRoute(t, g, 0, 1, []int{0})
	wantRoute(t, g, 0, 6, []int{5, 4}, 0, 1, 6)
	wantRoute(t, g, 0, 6, []int{7, -1, math.MinInt, math.MaxInt, api.MaxN, -7}, 0, 1, 6)
	wantRoute(t, g, 0, 6, []int{7, 1, -1}, 0, 2, 6)
	wantRoute(t, g, 1, 2, []int{0, 6})
	wantRoute(t, g, 1, 2, []int{0}, 1, 6, 2)
	wantRoute(t, g, 0, 6, row(0, 6))
	wantRoute(t, g, 0, 6, slices.Repeat([]int{1, -3, 99}, 1<<19), 0, 2, 6)
}

func TestE2NoVertex(t *testing.T) {
	g := ringOf(4)
	for _, no := range []int{-1, -4, 4, 5, api.MaxN, math.MinInt, math.MaxInt} {
		wantRoute(t, g, no, 0, nil)
		wantRoute(t, g, 0, no, nil)
		wantRoute(t, g, no, no, nil)
		wantRoute(t, g, no, 0, []int{no})
	}
}

func TestE2Greatest(t *testing.T) {
	last := api.MaxN - 1
	wantRoute(t, pathOf(api.MaxN), 0, last, nil, row(0, last)...)
	wantRoute(t, pathOf(api.MaxN), last, 0, nil, row(last, 0)...)
	wantRoute(t, pathOf(api.MaxN), 0, last, []int{500})
	wantRoute(t, ringOf(api.MaxN), 0, 500, nil, row(0, 500)...)
	wantRoute(t, ringOf(api.MaxN), 0, 501, nil, append([]int{0}, row(last, 501)...)...)
	wantRoute(t, ringOf(api.MaxN), 1, last, []int{0}, row(1, last)...)
	full := api.Graph{N: api.MaxN, E: pairs(101)[:api.MaxM]}
	wantRoute(t, full, 99, 98, nil, 99, 0, 98)
	wantRoute(t, full, 0, 101, nil)
}

func TestE2AllSmallGraphs(t *testing.T) {
	for n := range 6 {
		eachGraph(n, func(g api.Graph) {
			for a := range n {
				for b := range n {
					paths := slowPaths(g, a, b)
					for chosen := range 1 << n {
						var away []int
						for v := n - 1; v >= 0; v-- {
							if chosen>>v&1 == 1 {
								away = append(away, v)
							}
						}
						wantRoute(t, g, a, b, away, slowRoute(paths, away)...)
					}
				}
			}
		})
	}
}

// TestE2WaysOn: a route is a path, and the way on from each of its vertices
// is the route from there.
func TestE2WaysOn(t *testing.T) {
	eachGraph(5, func(g api.Graph) {
		for a := range 5 {
			for b := range 5 {
				r := Route(g, a, b, nil)
				if len(r) > 0 && !IsPath(g, r) {
					t.Errorf("of %v: %v is no path", g, r)
				}
				for i := range r {
					wantRoute(t, g, r[i], b, nil, r[i:]...)
				}
			}
		}
	})
}

func TestE3Example(t *testing.T) {
	wantTurn(t, []int{2, 1, 3, 0}, 0, 2, 1, 3)
}

func TestE3NoRing(t *testing.T) {
	wantTurn(t, nil)
	wantTurn(t, []int{})
	wantTurn(t, []int{5}, 5)
	wantTurn(t, []int{5, 4}, 5, 4)
	wantTurn(t, []int{4, 5}, 4, 5)
	wantTurn(t, []int{4, 4}, 4, 4)
	wantTurn(t, []int{2, 1, 1}, 2, 1, 1)
	wantTurn(t, []int{2, 1, 2}, 2, 1, 2)
	wantTurn(t, []int{2, 2, 1}, 2, 2, 1)
	wantTurn(t, []int{3, 3, 3}, 3, 3, 3)
	wantTurn(t, []int{9, 2, 7, 1, 7, 8}, 9, 2, 7, 1, 7, 8)
	wantTurn(t, []int{9, 2, -7, 1, -7, 8}, 9, 2, -7, 1, -7, 8)
}

func TestE3Ring(t *testing.T) {
	for _, want := range [][]int{
		{0, 1, 2},
		{4, 7, 9},
		{0, 1, 2, 3},
		{0, 1, 3, 2},
		{0, 2, 1, 3},
		{-5, -4, 3, 0, 7},
		{-3, -1, -2, 0},
		{-9, -8, -7},
		{math.MinInt, -1, 0, math.MaxInt},
		{math.MinInt, 0, math.MaxInt, 1, 2, -1, 5},
		{1, 3, 12, 4, 2, 11, 10, 5},
	} {
		for i := range want {
			c := slices.Concat(want[i:], want[:i])
			wantTurn(t, c, want...)
			slices.Reverse(c)
			wantTurn(t, c, want...)
		}
	}
}

func TestE3AllShortRows(t *testing.T) {
	eachRow(5, -2, 3, func(l []int) { wantTurn(t, l, slowTurn(l)...) })
	eachRow(6, 0, 5, func(l []int) {
		if len(l) == 6 && proper(with(6), l) {
			wantTurn(t, l, slowTurn(l)...)
		}
	})
}

func TestE3Long(t *testing.T) {
	n := 1 << 17
	wantTurn(t, append(row(n/2, n), row(0, n/2-1)...), row(0, n)...)
	wantTurn(t, append(row(n/2, 0), row(n, n/2+1)...), row(0, n)...)
	twice := append(row(n, 1), n)
	wantTurn(t, twice, twice...)
}

func TestE4Whole(t *testing.T) {
	g := with(8, 0, 4, 1, 2, 2, 5, 3, 5, 5, 7, 6, 7)
	wantWhole(t, g, true, 3, 1, 5, 2)
	wantWhole(t, g, true, 1, 2)
	wantWhole(t, g, true, 2, 1)
	wantWhole(t, g, true, 6, 1, 7, 2, 3, 5)
	wantWhole(t, g, true, 0, 4)
	wantWhole(t, g, false, 0, 1)
	wantWhole(t, g, false, 0, 4, 1, 2)
	wantWhole(t, g, false, 1, 2, 0, 4)
	wantWhole(t, g, false, 0, 4, 1)
	wantWhole(t, g, false, 1, 0, 4)
}

func TestE4FewVertices(t *testing.T) {
	wantWhole(t, ringOf(3), false)
	for v := range 3 {
		wantWhole(t, ringOf(3), true, v)
		wantWhole(t, with(3), true, v)
		wantWhole(t, with(3), false, v, (v+1)%3)
	}
	wantWhole(t, with(1), true, 0)
	wantWhole(t, with(0), false)
	wantWhole(t, with(0), false, 0)
}

func TestE4OnlyByOthers(t *testing.T) {
	star := with(5, 0, 4, 1, 4, 2, 4, 3, 4)
	wantWhole(t, star, false, 0, 1)
	wantWhole(t, star, false, 0, 1, 2, 3)
	wantWhole(t, star, true, 0, 1, 4)
	wantWhole(t, star, true, 0, 1, 2, 3, 4)
	wantWhole(t, ringOf(6), false, 0, 1, 3, 4)
	wantWhole(t, ringOf(6), true, 0, 1, 5, 4)
	wantWhole(t, ringOf(6), true, 0, 1, 2, 3, 4)
	wantWhole(t, pathOf(6), false, 0, 1, 2, 4, 5)
}

func TestE4Twice(t *testing.T) {
	wantWhole(t, ringOf(4), false, 0, 0)
	wantWhole(t, ringOf(4), false, 0, 1, 0)
	wantWhole(t, ringOf(4), false, 0, 1, 1, 2)
	wantWhole(t, ringOf(4), false, 0, 1, 2, 3, 3)
	wantWhole(t, ringOf(4), false, 0, 1, 2, 3, 0)
}

func TestE4NoVertex(t *testing.T) {
	g := ringOf(4)
	for _, no := range []int{-1, -4, 4, 5, api.MaxN, math.MinInt, math.MaxInt} {
		wantWhole(t, g, false, no)
		wantWhole(t, g, false, no, 0)
		wantWhole(t, g, false, 0, no)
		wantWhole(t, g, false, 0, 1, no, 2, 3)
		wantWhole(t, g, false, no, no)
	}
}

func TestE4Greatest(t *testing.T) {
	last := api.MaxN - 1
	wantWhole(t, pathOf(api.MaxN), true, row(0, last)...)
	wantWhole(t, pathOf(api.MaxN), true, row(last, 0)...)
	wantWhole(t, pathOf(api.MaxN), true, row(300, last)...)
	wantWhole(t, pathOf(api.MaxN), false, append(row(0, 499), row(501, last)...)...)
	wantWhole(t, ringOf(api.MaxN), true, append(row(0, 499), row(501, last)...)...)
	wantWhole(t, ringOf(api.MaxN), false, row(0, api.MaxN)...)
	wantWhole(t, with(api.MaxN), false, row(0, last)...)
}

func TestE4AllSmallGraphs(t *testing.T) {
	for n := range 5 {
		eachGraph(n, func(g api.Graph) {
			eachRow(min(n+1, 4), -1, n, func(l []int) { wantWhole(t, g, slowWhole(g, l), l...) })
		})
	}
	eachGraph(5, func(g api.Graph) {
		for chosen := range 1 << 5 {
			var l []int
			for v := range 5 {
				if chosen>>v&1 == 1 {
					l = append(l, v*2%5)
				}
			}
			wantWhole(t, g, slowWhole(g, l), l...)
		}
	})
}

func TestE5Example(t *testing.T) {
	wantApart(t, true, []int{0, 1, 2}, []int{0, 3, 2})
	wantApart(t, false, []int{0, 1, 2}, []int{1, 3})
}

func TestE5NoInner(t *testing.T) {
	wantApart(t, true)
	if !Apart(nil) {
		t.Error("Apart(nil) = false")
	}
	wantApart(t, true, nil)
	wantApart(t, true, nil, []int{}, nil)
	wantApart(t, true, []int{3})
	wantApart(t, true, []int{3}, []int{3})
	wantApart(t, true, []int{3, 3})
	wantApart(t, true, []int{3, 4}, []int{4, 3}, []int{3}, []int{3, 4}, nil)
}

func TestE5Inner(t *testing.T) {
	wantApart(t, true, []int{0, 1, 2})
	wantApart(t, true, []int{0, 1, 0})
	wantApart(t, true, []int{0, 1, 2, 0}, []int{0, 3, 4, 0}, []int{0, 0})
	wantApart(t, true, []int{-1, -2, -3}, []int{-3, math.MinInt, math.MaxInt, -1})
	// In its own row.
	wantApart(t, false, []int{0, 1, 1, 2})
	wantApart(t, false, []int{0, 1, 3, 1, 2})
	wantApart(t, false, []int{0, 0, 2})
	wantApart(t, false, []int{2, 0, 0})
	wantApart(t, false, []int{0, 1, 0, 2})
	wantApart(t, false, []int{0, 1, 2, 1})
	wantApart(t, false, []int{0, 0, 0})
	wantApart(t, false, []int{-4, -5, -5, -6})
	// As another row's end.
	wantApart(t, false, []int{0, 1, 2}, []int{3, 1})
	wantApart(t, false, []int{0, 1, 2}, []int{1})
	wantApart(t, false, []int{1}, []int{0, 1, 2})
	wantApart(t, false, []int{1, 3}, []int{0, 1, 2})
	wantApart(t, false, []int{3, 4, 1}, []int{0, 1, 2})
	wantApart(t, false, []int{0, 5, 1, 2}, nil, []int{6, 7}, []int{3, 4, 1})
	// As another row's inner one.
	wantApart(t, false, []int{0, 1, 2}, []int{3, 1, 4})
	wantApart(t, false, []int{0, 1, 2}, []int{0, 1, 2})
	wantApart(t, false, []int{0, 5, 1, 2}, []int{3}, []int{3, 1, 6, 4})
	wantApart(t, false, []int{0, 1, 5, 2}, []int{3, 6, 5, 4})
}

func TestE5AllShortRows(t *testing.T) {
	eachRow(5, 0, 3, func(x []int) {
		wantApart(t, slowApart([][]int{x}), x)
		for cut := range len(x) {
			wantApart(t, slowApart([][]int{x[:cut], x[cut:]}), x[:cut], x[cut:])
		}
	})
	eachRow(4, 0, 4, func(x []int) {
		eachRow(3, 0, 4, func(y []int) {
			wantApart(t, slowApart([][]int{x, {4, 1}, y}), x, []int{4, 1}, y)
		})
	})
}

func TestE5Long(t *testing.T) {
	n := 1 << 17
	wantApart(t, true, row(0, n), row(n, 2*n), []int{n, 0})
	wantApart(t, false, row(0, n), row(n, 2*n), []int{n, 1})
	wantApart(t, false, row(0, n), row(n-1, 2*n))
}

func TestNotRight(t *testing.T) {
	for name, g := range notRight() {
		t.Run(name, func(t *testing.T) {
			wantPath(t, g, nil, false, false)
			wantPath(t, g, []int{0}, false, false)
			wantPath(t, g, []int{0, 1}, false, false)
			wantPath(t, g, []int{0, 1, 2}, false, false)
			wantRoute(t, g, 0, 0, nil)
			wantRoute(t, g, 0, 1, nil)
			wantRoute(t, g, 1, 0, []int{2})
			wantRoute(t, g, 2, 2, nil)
			wantWhole(t, g, false)
			wantWhole(t, g, false, 0)
			wantWhole(t, g, false, 0, 1)
			wantWhole(t, g, false, 0, 1, 2)
		})
	}
}

// roomy tells the numbers in a list with room behind them, and that room.
func roomy[T any](l ...T) ([]T, []T) {
	wide := append(make([]T, 0, len(l)+9), l...)
	return wide, wide[len(wide):cap(wide)]
}

// spoil writes over a list, also behind what is told of it.
func spoil(l []int) {
	l = l[:cap(l)]
	for i := range l {
		l[i] = -7
	}
}

// wantUntouched looks at the room behind what was handed in.
func wantUntouched(t *testing.T, room []int) {
	t.Helper()
	if slices.ContainsFunc(room, func(v int) bool { return v != 0 }) {
		t.Errorf("behind what was handed in stands %v", room)
	}
}

func TestR1Turn(t *testing.T) {
	for _, l := range [][]int{
		{0, 1, 2}, {0, 2, 1}, {1, 0, 2}, {2, 0, 1}, {1, 2, 0}, {2, 1, 0},
		{4, 3, 2, 1, 5}, {5, 1, 2, 3, 4}, {1, 5, 4, 3, 2}, {2, 3, 4, 5, 1},
		{1}, {2, 1}, {1, 1, 2}, {3, 1, 2, 1},
	} {
		c, room := roomy(l...)
		want := slowTurn(l)
		earlier := Turn(c)
		spoil(Turn(c))
		if !slices.Equal(c, l) {
			t.Errorf("writing over the answer left %v of %v", c, l)
		}
		wantUntouched(t, room)
		wantTurn(t, c, want...)
		spoil(c)
		if !slices.Equal(earlier, want) {
			t.Errorf("writing over what was handed in left %v of %v", earlier, want)
		}
	}
}

func TestR1Route(t *testing.T) {
	g := ringOf(7)
	kept := slices.Clone(g.E)
	edges, behind := roomy(g.E...)
	g.E = edges
	away, room := roomy(2, 9, -1)
	want := []int{1, 0, 6, 5, 4, 3}
	earlier := Route(g, 1, 3, away)
	for _, ends := range [][2]int{{1, 3}, {1, 1}, {1, 0}} {
		spoil(Route(g, ends[0], ends[1], away))
	}
	if !slices.Equal(g.E, kept) || !slices.Equal(away, []int{2, 9, -1}) {
		t.Errorf("writing over the answer left %v and %v", g.E, away)
	}
	wantUntouched(t, room)
	if slices.ContainsFunc(behind, func(e api.Edge) bool { return e != api.Edge{} }) {
		t.Errorf("behind the edges stands %v", behind)
	}
	wantRoute(t, g, 1, 3, away, want...)
	spoil(away)
	clear(g.E)
	if !slices.Equal(earlier, want) {
		t.Errorf("writing over what was handed in left %v of %v", earlier, want)
	}
	// What is handed in is not kept: the same list, with other numbers in it.
	copy(g.E, kept)
	wantRoute(t, g, 1, 3, away, 1, 2, 3)
	away[0] = 2
	wantRoute(t, g, 1, 3, away, want...)
	copy(g.E, pathOf(7).E)
	g.E = g.E[:6]
	wantRoute(t, g, 1, 3, away)
}

func TestR1Asking(t *testing.T) {
	g := ringOf(3)
	l, room := roomy(2, 0, 1)
	for k := range 4 {
		// Behind the row that is handed in, there may be more of the list.
		wantPath(t, g, l[:k], k > 0, k == 3)
		wantWhole(t, g, k > 0, l[:k]...)
		wantApart(t, true, l[:k])
		if !slices.Equal(l, []int{2, 0, 1}) {
			t.Errorf("of the list is left %v", l)
		}
		wantUntouched(t, room)
	}
	// What is handed in is not kept: the same list, with other numbers in it.
	l[1] = 2
	wantPath(t, g, l, false, false)
	wantWhole(t, g, false, l...)
	wantApart(t, false, l)
	l[1] = 0
	g.E[1] = api.Edge{A: 1, B: 0}
	wantPath(t, g, l, false, false)
	wantWhole(t, g, false, l...)
}

func TestR4SameAnswers(t *testing.T) {
	g := grid(6)
	want := Route(g, 0, 35, []int{7, 9})
	for range 50 {
		Route(ringOf(9), 3, 8, []int{2})
		Turn([]int{3, 1, 2})
		Apart([][]int{{1, 2, 3}, {3, 4, 5, 6}})
		wantRoute(t, g, 0, 35, []int{7, 9}, want...)
	}
}

func FuzzWalk(f *testing.F) {
	f.Add(4, []byte{0, 1, 0, 3, 1, 2, 2, 3}, []byte{0, 2, 1})
	f.Add(7, []byte{0, 5, 2, 5, 2, 6, 3, 5, 3, 6, 1, 4, 4, 6}, []byte{0, 6, 9, 2, 255})
	f.Add(7, []byte("\x00\x03\x00\x04\x03\x05\x04\x05\x05\x06\x01\x06\x02\x06"), []byte{1, 0, 4})
	f.Add(-3, []byte{0, 1}, []byte{})
	f.Fuzz(func(t *testing.T, n int, ends, numbers []byte) {
		n = max(n%8, 0) // the slow way goes through all paths
		chosen := map[api.Edge]bool{}
		for i := 0; i+1 < len(ends); i += 2 {
			a, b := int(ends[i]), int(ends[i+1])
			chosen[api.Edge{A: min(a, b), B: max(a, b)}] = true
		}
		g := api.Graph{N: n}
		for _, e := range pairs(n) {
			if chosen[e] {
				g.E = append(g.E, e)
			}
		}
		var l []int
		for _, b := range numbers[:min(len(numbers), 12)] {
			l = append(l, int(int8(b)))
		}
		wantPath(t, g, l, slowIsPath(g, l), slowIsCycle(g, l))
		wantWhole(t, g, slowWhole(g, l), l...)
		wantTurn(t, l, slowTurn(l)...)
		if len(l) < 2 {
			return
		}
		wantRoute(t, g, l[0], l[1], l[2:], slowRoute(slowPaths(g, l[0], l[1]), l[2:])...)
		wantApart(t, slowApart([][]int{l[:len(l)/2], l[len(l)/2:]}), l[:len(l)/2], l[len(l)/2:])
	})
}
