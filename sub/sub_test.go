package sub

import (
	"fmt"
	"math"
	"slices"
	"testing"

	"carcanet/api"
)

// with tells the graph whose edges have the ends l, one behind the other.
func with(n int, l ...int) api.Graph {
	g := api.Graph{N: n}
	for i := 0; i+1 < len(l); i += 2 {
		g.E = append(g.E, api.Edge{A: l[i], B: l[i+1]})
	}
	return g
}

// row tells the numbers from first to last, also if they fall.
func row(first, last int) []int {
	if first > last {
		out := row(last, first)
		slices.Reverse(out)
		return out
	}
	out := []int{}
	for v := first; v <= last; v++ {
		out = append(out, v)
	}
	return out
}

func pathOf(n int) api.Graph {
	g := api.Graph{N: n}
	for v := 0; v+1 < n; v++ {
		g.E = append(g.E, api.Edge{A: v, B: v + 1})
	}
	return g
}

// ringOf is pathOf, and the first and the last vertex are neighbours.
func ringOf(n int) api.Graph {
	g := pathOf(n)
	g.E = slices.Insert(g.E, 1, api.Edge{A: 0, B: n - 1})
	return g
}

// pairs tells all pairs of n vertices, rising: what a full graph's edges are.
func pairs(n int) []api.Edge {
	var out []api.Edge
	for a := range n {
		for b := a + 1; b < n; b++ {
			out = append(out, api.Edge{A: a, B: b})
		}
	}
	return out
}

// full has as many edges as there may be, among the first 90 vertices.
func full() api.Graph {
	return api.Graph{N: api.MaxN, E: pairs(90)[:api.MaxM]}
}

// eachGraph goes through all graphs of n vertices.
func eachGraph(n int, visit func(g api.Graph)) {
	all := pairs(n)
	for chosen := range 1 << len(all) {
		g := api.Graph{N: n}
		for i, e := range all {
			if chosen>>i&1 == 1 {
				g.E = append(g.E, e)
			}
		}
		visit(g)
	}
}

// eachRow goes through all rows of at most m numbers from low to high.
func eachRow(m, low, high int, visit func(l []int)) {
	var l []int
	var more func()
	more = func() {
		visit(l)
		if len(l) == m {
			return
		}
		for v := low; v <= high; v++ {
			l = append(l, v)
			more()
			l = l[:len(l)-1]
		}
	}
	more()
}

// noVertices tells numbers that stand for no vertex of a graph of n.
func noVertices(n int) []int {
	return []int{-1, -2, -n - 1, n, n + 1, api.MaxN, api.MaxN + 1, math.MinInt, math.MaxInt}
}

// brief tells what stands in a message, so that great graphs don't fill it.
func brief(what ...any) string {
	text := fmt.Sprint(what...)
	if len(text) > 400 {
		return text[:400] + " .."
	}
	return text
}

// beside tells by the edges whether a and b are neighbours.
func beside(g api.Graph, a, b int) bool {
	return slices.Contains(g.E, api.Edge{A: min(a, b), B: max(a, b)})
}

// slowMade tells the graph whose vertices are the lists of l: two are
// neighbours if a vertex of one is a neighbour of a vertex of the other.
func slowMade(g api.Graph, l [][]int) api.Graph {
	edges := map[api.Edge]bool{}
	for _, e := range g.E {
		edges[e] = true
	}
	made := api.Graph{N: len(l)}
	for _, pair := range pairs(len(l)) {
		joined := false
		for _, a := range l[pair.A] {
			for _, b := range l[pair.B] {
				joined = joined || edges[api.Edge{A: a, B: b}] || edges[api.Edge{A: b, B: a}]
			}
		}
		if joined {
			made.E = append(made.E, pair)
		}
	}
	return made
}

func slowVertex(g api.Graph, v int) bool {
	return slices.Contains(row(0, g.N-1), v) && g.N > 0
}

// slowInduced is for graphs that are right.
func slowInduced(g api.Graph, l []int) (api.Graph, api.Errno) {
	var single [][]int
	for _, v := range l {
		if !slowVertex(g, v) {
			return api.Graph{}, api.ErrRange
		}
		single = append(single, []int{v})
	}
	for i, v := range l {
		if slices.Contains(l[:i], v) {
			return api.Graph{}, api.ErrArg
		}
	}
	return slowMade(g, single), api.OK
}

// slowDelete is for graphs that are right.
func slowDelete(g api.Graph, v int) (api.Graph, api.Errno) {
	if !slowVertex(g, v) {
		return api.Graph{}, api.ErrRange
	}
	var others [][]int
	for w := range g.N {
		if w != v {
			others = append(others, []int{w})
		}
	}
	return slowMade(g, others), api.OK
}

// slowContract is for graphs that are right.
func slowContract(g api.Graph, a, b int) (api.Graph, api.Errno) {
	switch {
	case !slowVertex(g, a) || !slowVertex(g, b):
		return api.Graph{}, api.ErrRange
	case !beside(g, a, b):
		return api.Graph{}, api.ErrNone
	}
	var sets [][]int
	for w := range g.N {
		switch w {
		case max(a, b):
		case min(a, b):
			sets = append(sets, []int{a, b})
		default:
			sets = append(sets, []int{w})
		}
	}
	return slowMade(g, sets), api.OK
}

// wantMade holds an answer against what it should be; what is told beside a
// code is nothing.
func wantMade(t *testing.T, call string, got api.Graph, e api.Errno, want api.Graph, code api.Errno) {
	t.Helper()
	if e != code || got.N != want.N || !slices.Equal(got.E, want.E) {
		t.Errorf("%s = %s, %v, want %s, %v", call, brief(got), e, brief(want), code)
	}
}

// wantLeft looks at what was handed in.
func wantLeft(t *testing.T, call string, g, before api.Graph) {
	t.Helper()
	if g.N != before.N || !slices.Equal(g.E, before.E) {
		t.Errorf("%s left %s of %s", call, brief(g), brief(before))
	}
}

func kept(g api.Graph) api.Graph {
	return api.Graph{N: g.N, E: slices.Clone(g.E)}
}

func wantInduced(t *testing.T, g api.Graph, l []int, want api.Graph, code api.Errno) {
	t.Helper()
	before, row := kept(g), slices.Clone(l)
	call := "Induced(" + brief(g) + ", " + brief(l) + ")"
	got, e := Induced(g, l)
	wantMade(t, call, got, e, want, code)
	wantLeft(t, call, g, before)
	if !slices.Equal(l, row) {
		t.Errorf("%s left %s of %s", call, brief(l), brief(row))
	}
}

func wantDelete(t *testing.T, g api.Graph, v int, want api.Graph, code api.Errno) {
	t.Helper()
	before := kept(g)
	call := fmt.Sprintf("Delete(%s, %d)", brief(g), v)
	got, e := Delete(g, v)
	wantMade(t, call, got, e, want, code)
	wantLeft(t, call, g, before)
}

// wantContract names either end first.
func wantContract(t *testing.T, g api.Graph, a, b int, want api.Graph, code api.Errno) {
	t.Helper()
	for _, ends := range [][2]int{{a, b}, {b, a}} {
		before := kept(g)
		call := fmt.Sprintf("Contract(%s, %d, %d)", brief(g), ends[0], ends[1])
		got, e := Contract(g, ends[0], ends[1])
		wantMade(t, call, got, e, want, code)
		wantLeft(t, call, g, before)
	}
}

// notRight tells graphs that may not be, in each of the ways. But for that,
// most of them have vertices 0, 1 and 2, and 0 and 1 beside each other.
func notRight() map[string]api.Graph {
	return map[string]api.Graph{
		"fewer than no vertices":     with(-1),
		"fewer, with an edge":        with(-1, 0, 1),
		"far fewer":                  with(math.MinInt, 0, 1),
		"one vertex too many":        with(api.MaxN + 1),
		"too many, with edges":       with(api.MaxN+1, 0, 1, 0, 2, 1, 2),
		"far too many":               with(math.MaxInt, 0, 1, 0, 2, 1, 2),
		"one edge too many":          {N: 101, E: pairs(101)[:api.MaxM+1]},
		"the greater first":          with(3, 1, 0),
		"the greater first, later":   with(3, 0, 1, 2, 1),
		"a vertex beside itself":     with(3, 0, 0, 0, 1),
		"below the first vertex":     with(3, -1, 0, 0, 1),
		"the second one below it":    with(3, 0, -1, 0, 1),
		"both below it":              with(3, -2, -1, 0, 1),
		"behind the last vertex":     with(3, 0, 1, 0, 3),
		"both behind it":             with(3, 0, 1, 3, 4),
		"far behind it":              with(3, 0, 1, 0, math.MaxInt),
		"far below":                  with(3, math.MinInt, 1),
		"an edge without vertices":   with(0, 0, 1),
		"an edge of a single vertex": with(1, 0, 1),
		"the first vertices fall":    with(3, 1, 2, 0, 1),
		"the second ones fall":       with(3, 0, 2, 0, 1, 1, 2),
		"an edge twice":              with(3, 0, 1, 0, 1, 0, 2, 1, 2),
		"twice, turned round":        with(3, 0, 1, 1, 0, 1, 2),
		"twice, others between":      with(3, 0, 1, 0, 2, 0, 1),
		"wrong at the end only":      with(4, 0, 1, 0, 2, 1, 2, 1, 4),
	}
}

func TestF1Example(t *testing.T) {
	wantInduced(t, ringOf(4), []int{2, 0}, with(2), api.OK)
}

func TestF1Places(t *testing.T) {
	// 3 has no neighbour; the others are a ring with a chord.
	g := with(6, 0, 1, 0, 2, 0, 5, 1, 2, 2, 4, 4, 5)
	wantInduced(t, g, nil, with(0), api.OK)
	wantInduced(t, g, []int{}, with(0), api.OK)
	for v := range 6 {
		wantInduced(t, g, []int{v}, with(1), api.OK)
	}
	wantInduced(t, g, row(0, 5), g, api.OK)
	wantInduced(t, g, row(5, 0), with(6, 0, 1, 0, 5, 1, 3, 3, 4, 3, 5, 4, 5), api.OK)
	wantInduced(t, g, []int{3, 0, 5, 2, 1, 4}, with(6, 1, 2, 1, 3, 1, 4, 2, 5, 3, 4, 3, 5), api.OK)
	wantInduced(t, g, []int{0, 2}, with(2, 0, 1), api.OK)
	wantInduced(t, g, []int{2, 0}, with(2, 0, 1), api.OK)
	wantInduced(t, g, []int{1, 5}, with(2), api.OK)
	wantInduced(t, g, []int{4, 5, 0}, with(3, 0, 1, 1, 2), api.OK)
	wantInduced(t, g, []int{2, 0, 1}, ringOf(3), api.OK)
	wantInduced(t, g, []int{1, 3, 5}, with(3), api.OK)
	wantInduced(t, g, []int{5, 3, 2, 4}, with(4, 0, 3, 2, 3), api.OK)
}

func TestF1FewVertices(t *testing.T) {
	wantInduced(t, with(0), nil, with(0), api.OK)
	wantInduced(t, with(0), []int{0}, with(0), api.ErrRange)
	wantInduced(t, with(1), nil, with(0), api.OK)
	wantInduced(t, with(1), []int{0}, with(1), api.OK)
	wantInduced(t, with(1), []int{0, 0}, with(0), api.ErrArg)
	wantInduced(t, with(2), []int{1, 0}, with(2), api.OK)
	wantInduced(t, with(2, 0, 1), []int{1, 0}, with(2, 0, 1), api.OK)
}

func TestF1Twice(t *testing.T) {
	g := ringOf(4)
	for _, l := range [][]int{
		{0, 0}, {3, 3}, {0, 1, 0}, {1, 0, 0}, {0, 0, 1}, {2, 3, 1, 2}, {0, 1, 2, 3, 3}, {0, 1, 2, 3, 0}, {2, 2, 2}, {1, 2, 1, 2},
	} {
		wantInduced(t, g, l, with(0), api.ErrArg)
	}
}

func TestF1NoVertex(t *testing.T) {
	g := ringOf(4)
	for _, no := range noVertices(4) {
		for _, l := range [][]int{
			{no}, {no, 0}, {0, no}, {0, no, 1}, {0, 1, 2, 3, no}, {no, 0, 1, 2, 3},
			// With one that stands twice, ahead of it, behind it and around it.
			{0, 0, no}, {no, 0, 0}, {0, no, 0}, {no, no}, {0, 1, 2, 3, 0, no}, {no, 3, 2, 3},
		} {
			wantInduced(t, g, l, with(0), api.ErrRange)
		}
	}
}

func TestF1Greatest(t *testing.T) {
	last := api.MaxN - 1
	wantInduced(t, ringOf(api.MaxN), row(0, last), ringOf(api.MaxN), api.OK)
	wantInduced(t, ringOf(api.MaxN), row(last, 0), ringOf(api.MaxN), api.OK)
	wantInduced(t, ringOf(api.MaxN), row(last, 1), pathOf(last), api.OK)
	wantInduced(t, ringOf(api.MaxN), slices.Concat(row(300, last), row(0, 299)), ringOf(api.MaxN), api.OK)
	wantInduced(t, ringOf(api.MaxN), row(0, api.MaxN), with(0), api.ErrRange)
	wantInduced(t, ringOf(api.MaxN), append(row(0, last), 7), with(0), api.ErrArg)
	wantInduced(t, with(api.MaxN), row(last, 0), with(api.MaxN), api.OK)
	wantInduced(t, full(), row(0, last), full(), api.OK)
	wantInduced(t, full(), row(0, 9), api.Graph{N: 10, E: pairs(10)}, api.OK)
	wantInduced(t, full(), row(last, 90), with(api.MaxN-90), api.OK)
	turned := row(last, 0)
	want, e := slowInduced(full(), turned)
	wantInduced(t, full(), turned, want, e)
	if len(want.E) != api.MaxM {
		t.Errorf("turned round, the full graph has %d edges", len(want.E))
	}
	wantInduced(t, full(), make([]int, 1<<20), with(0), api.ErrArg)
	wantInduced(t, full(), append(make([]int, 1<<20), -1), with(0), api.ErrRange)
}

func TestF1AllSmallGraphs(t *testing.T) {
	for n := range 5 {
		eachGraph(n, func(g api.Graph) {
			eachRow(min(n+1, 4), -1, n, func(l []int) {
				want, e := slowInduced(g, l)
				wantInduced(t, g, l, want, e)
			})
		})
	}
	eachGraph(4, func(g api.Graph) {
		eachRow(5, 0, 3, func(l []int) {
			want, e := slowInduced(g, l)
			wantInduced(t, g, l, want, e)
		})
	})
}

func TestF2Example(t *testing.T) {
	wantDelete(t, ringOf(4), 1, with(3, 0, 2, 1, 2), api.OK)
}

func TestF2Delete(t *testing.T) {
	// 0, 3 and 6 have no neighbour.
	g := with(7, 1, 2, 1, 4, 1, 5, 2, 4, 4, 5)
	wantDelete(t, g, 0, with(6, 0, 1, 0, 3, 0, 4, 1, 3, 3, 4), api.OK)
	wantDelete(t, g, 1, with(6, 1, 3, 3, 4), api.OK)
	wantDelete(t, g, 2, with(6, 1, 3, 1, 4, 3, 4), api.OK)
	wantDelete(t, g, 3, with(6, 1, 2, 1, 3, 1, 4, 2, 3, 3, 4), api.OK)
	wantDelete(t, g, 4, with(6, 1, 2, 1, 4), api.OK)
	wantDelete(t, g, 5, with(6, 1, 2, 1, 4, 2, 4), api.OK)
	wantDelete(t, g, 6, with(6, 1, 2, 1, 4, 1, 5, 2, 4, 4, 5), api.OK)
	// First and last with neighbours.
	wantDelete(t, ringOf(5), 0, pathOf(4), api.OK)
	wantDelete(t, ringOf(5), 4, pathOf(4), api.OK)
	wantDelete(t, with(4, 0, 1, 0, 2, 0, 3), 0, with(3), api.OK)
	wantDelete(t, with(4, 0, 3, 1, 3, 2, 3), 3, with(3), api.OK)
	wantDelete(t, with(4, 0, 3, 1, 3, 2, 3), 1, with(3, 0, 2, 1, 2), api.OK)
}

func TestF2FewVertices(t *testing.T) {
	wantDelete(t, with(0), 0, with(0), api.ErrRange)
	wantDelete(t, with(1), 0, with(0), api.OK)
	for v := range 2 {
		wantDelete(t, with(2), v, with(1), api.OK)
		wantDelete(t, with(2, 0, 1), v, with(1), api.OK)
	}
}

func TestF2NoVertex(t *testing.T) {
	for n := range 6 {
		for _, no := range noVertices(n) {
			wantDelete(t, pathOf(n), no, with(0), api.ErrRange)
		}
	}
}

func TestF2Greatest(t *testing.T) {
	last := api.MaxN - 1
	wantDelete(t, ringOf(api.MaxN), 0, pathOf(last), api.OK)
	wantDelete(t, ringOf(api.MaxN), last, pathOf(last), api.OK)
	wantDelete(t, ringOf(api.MaxN), api.MaxN, with(0), api.ErrRange)
	wantDelete(t, ringOf(api.MaxN), -1, with(0), api.ErrRange)
	wantDelete(t, pathOf(api.MaxN), last, pathOf(last), api.OK)
	wantDelete(t, pathOf(api.MaxN), 0, pathOf(last), api.OK)
	wantDelete(t, with(api.MaxN), 500, with(last), api.OK)
	wantDelete(t, full(), last, api.Graph{N: last, E: full().E}, api.OK)
	for _, v := range []int{0, 50, 89, 90, 500} {
		want, e := slowDelete(full(), v)
		wantDelete(t, full(), v, want, e)
	}
}

func TestF2AllSmallGraphs(t *testing.T) {
	for n := range 6 {
		eachGraph(n, func(g api.Graph) {
			for v := -2; v <= n+1; v++ {
				want, e := slowDelete(g, v)
				wantDelete(t, g, v, want, e)
			}
		})
	}
}

func TestF3Example(t *testing.T) {
	wantContract(t, ringOf(4), 3, 0, ringOf(3), api.OK)
}

func TestF3Order(t *testing.T) {
	g := with(5, 0, 1, 0, 2, 1, 2, 1, 3, 2, 4, 3, 4)
	want := with(4, 0, 1, 1, 2, 1, 3, 2, 3)
	for _, ends := range [][2]int{{1, 2}, {2, 1}} {
		got, e := Contract(g, ends[0], ends[1])
		wantMade(t, brief("Contract", ends), got, e, want, api.OK)
	}
}

func TestF3InCommon(t *testing.T) {
	// None in common.
	wantContract(t, with(6, 0, 2, 1, 2, 2, 4, 3, 4, 4, 5), 2, 4, with(5, 0, 2, 1, 2, 2, 3, 2, 4), api.OK)
	// One in common, and one of each alone.
	wantContract(t, with(5, 0, 1, 0, 2, 0, 3, 1, 3, 1, 4), 0, 1, with(4, 0, 1, 0, 2, 0, 3), api.OK)
	// All in common.
	wantContract(t, with(5, 0, 1, 0, 3, 1, 2, 1, 3, 1, 4, 2, 3, 3, 4), 1, 3, with(4, 0, 1, 1, 2, 1, 3), api.OK)
	wantContract(t, ringOf(3), 0, 2, with(2, 0, 1), api.OK)
	for _, pair := range pairs(5) {
		wantContract(t, api.Graph{N: 5, E: pairs(5)}, pair.A, pair.B, api.Graph{N: 4, E: pairs(4)}, api.OK)
	}
}

func TestF3OnlyEdge(t *testing.T) {
	wantContract(t, with(2, 0, 1), 0, 1, with(1), api.OK)
	for _, pair := range pairs(5) {
		wantContract(t, with(5, pair.A, pair.B), pair.A, pair.B, with(4), api.OK)
	}
}

func TestF3Numbers(t *testing.T) {
	// Some stand below the two, some between them, some above.
	g := with(8, 0, 3, 0, 7, 1, 2, 1, 6, 2, 5, 3, 7, 5, 6)
	wantContract(t, g, 2, 5, with(7, 0, 3, 0, 6, 1, 2, 1, 5, 2, 5, 3, 6), api.OK)
	wantContract(t, g, 0, 7, with(7, 0, 3, 1, 2, 1, 6, 2, 5, 5, 6), api.OK)
	wantContract(t, g, 5, 6, with(7, 0, 3, 0, 6, 1, 2, 1, 5, 2, 5, 3, 6), api.OK)
	wantContract(t, g, 1, 2, with(7, 0, 2, 0, 6, 1, 4, 1, 5, 2, 6, 4, 5), api.OK)
	// 4 has no neighbour: it stays without one.
	wantContract(t, with(6, 0, 2, 2, 3), 0, 2, with(5, 0, 2), api.OK)
	wantContract(t, pathOf(5), 3, 4, pathOf(4), api.OK)
	wantContract(t, pathOf(5), 0, 1, pathOf(4), api.OK)
}

func TestF3NoNeighbours(t *testing.T) {
	g := with(5, 0, 1, 0, 2, 1, 2, 2, 3)
	for _, ends := range [][2]int{{0, 3}, {1, 3}, {0, 4}, {3, 4}, {0, 0}, {2, 2}, {4, 4}} {
		wantContract(t, g, ends[0], ends[1], with(0), api.ErrNone)
	}
	wantContract(t, with(1), 0, 0, with(0), api.ErrNone)
	wantContract(t, with(2), 0, 1, with(0), api.ErrNone)
}

func TestF3NoVertex(t *testing.T) {
	for n := range 5 {
		for _, no := range noVertices(n) {
			wantContract(t, pathOf(n), no, no, with(0), api.ErrRange)
			for v := range n {
				wantContract(t, pathOf(n), v, no, with(0), api.ErrRange)
			}
			for _, other := range noVertices(n) {
				wantContract(t, pathOf(n), no, other, with(0), api.ErrRange)
			}
		}
	}
}

func TestF3Greatest(t *testing.T) {
	last := api.MaxN - 1
	wantContract(t, ringOf(api.MaxN), 0, last, ringOf(last), api.OK)
	wantContract(t, ringOf(api.MaxN), 0, 1, ringOf(last), api.OK)
	wantContract(t, ringOf(api.MaxN), 500, 501, ringOf(last), api.OK)
	wantContract(t, ringOf(api.MaxN), 0, 500, with(0), api.ErrNone)
	wantContract(t, ringOf(api.MaxN), 0, api.MaxN, with(0), api.ErrRange)
	wantContract(t, pathOf(api.MaxN), last-1, last, pathOf(last), api.OK)
	wantContract(t, full(), 0, last, with(0), api.ErrNone)
	for _, ends := range [][2]int{{0, 1}, {0, 89}, {40, 80}, {87, 88}} {
		want, e := slowContract(full(), ends[0], ends[1])
		wantContract(t, full(), ends[0], ends[1], want, e)
	}
}

func TestF3AllSmallGraphs(t *testing.T) {
	for n := range 6 {
		eachGraph(n, func(g api.Graph) {
			for a := -1; a <= n; a++ {
				for b := a; b <= n; b++ {
					want, e := slowContract(g, a, b)
					wantContract(t, g, a, b, want, e)
				}
			}
		})
	}
}

// TestDeletedAndInduced: who is deleted, one behind the other, leaves what
// all others induce.
func TestDeletedAndInduced(t *testing.T) {
	for n := range 6 {
		eachGraph(n, func(g api.Graph) {
			for chosen := range 1 << n {
				var stay, falling, rising []int
				for v := range n {
					if chosen>>v&1 == 0 {
						stay = append(stay, v)
						continue
					}
					falling = append([]int{v}, falling...)
					// Each one deleted ahead of it has moved it down.
					rising = append(rising, v-len(rising))
				}
				for _, out := range [][]int{falling, rising} {
					left := g
					for _, v := range out {
						var e api.Errno
						if left, e = Delete(left, v); e != api.OK {
							t.Fatalf("Delete(%v, %d): %v", left, v, e)
						}
					}
					wantInduced(t, g, stay, left, api.OK)
				}
			}
		})
	}
}

// TestInducedAgain: what is induced of what is induced is induced by those
// who stand at the places of the places.
func TestInducedAgain(t *testing.T) {
	eachGraph(4, func(g api.Graph) {
		eachRow(4, 0, 3, func(l []int) {
			h, e := Induced(g, l)
			if e != api.OK {
				return
			}
			eachRow(len(l), 0, len(l)-1, func(m []int) {
				want, e := Induced(h, m)
				var both []int
				for _, i := range m {
					both = append(both, l[i])
				}
				wantInduced(t, g, both, want, e)
			})
		})
	})
}

// TestOneBehindTheOther: a ring stays one, one vertex less each time, till an
// edge is left.
func TestOneBehindTheOther(t *testing.T) {
	g := ringOf(api.MaxN)
	for n := api.MaxN; n > 3; n-- {
		a := n * 7 % (n - 1)
		var e api.Errno
		if g, e = Contract(g, a+1, a); e != api.OK || g.N != n-1 || !slices.Equal(g.E, ringOf(n-1).E) {
			t.Fatalf("of %d vertices are left %s, %v", n, brief(g), e)
		}
	}
	wantContract(t, g, 1, 2, with(2, 0, 1), api.OK)
}

func TestNotRight(t *testing.T) {
	for name, g := range notRight() {
		t.Run(name, func(t *testing.T) {
			for _, l := range [][]int{
				nil, {}, {0}, {0, 1}, {2, 1, 0}, {0, 0}, {1, 0, 1}, {-1}, {0, -1}, {-1, 0}, {0, 0, -1}, {math.MaxInt, math.MinInt}, row(0, api.MaxN+1),
			} {
				wantInduced(t, g, l, with(0), api.ErrArg)
			}
			for _, v := range []int{0, 1, 2, 3, -1, api.MaxN, api.MaxN + 1, math.MinInt, math.MaxInt} {
				wantDelete(t, g, v, with(0), api.ErrArg)
				for _, w := range []int{v, 0, 1, 2, -1, math.MinInt, math.MaxInt} {
					wantContract(t, g, v, w, with(0), api.ErrArg)
				}
			}
		})
	}
}

// roomy tells the items in a list with room behind them, and that room.
func roomy[T any](l ...T) ([]T, []T) {
	wide := append(make([]T, 0, len(l)+9), l...)
	return wide, wide[len(wide):cap(wide)]
}

// spoil writes over a graph's edges, also behind what is told of them.
func spoil(g api.Graph) {
	l := g.E[:cap(g.E)]
	for i := range l {
		l[i] = api.Edge{A: -7, B: -7}
	}
}

// makers tells calls that answer a graph of one that is handed in, also such
// as leave its edges as they were.
func makers(l []int) map[string]func(g api.Graph) (api.Graph, api.Errno) {
	return map[string]func(g api.Graph) (api.Graph, api.Errno){
		"Induced":      func(g api.Graph) (api.Graph, api.Errno) { return Induced(g, l) },
		"Delete":       func(g api.Graph) (api.Graph, api.Errno) { return Delete(g, 2) },
		"Delete last":  func(g api.Graph) (api.Graph, api.Errno) { return Delete(g, 6) },
		"Delete first": func(g api.Graph) (api.Graph, api.Errno) { return Delete(g, 0) },
		"Contract":     func(g api.Graph) (api.Graph, api.Errno) { return Contract(g, 5, 3) },
		"no Induced":   func(g api.Graph) (api.Graph, api.Errno) { return Induced(g, []int{9}) },
		"no Delete":    func(g api.Graph) (api.Graph, api.Errno) { return Delete(g, 9) },
		"no Contract":  func(g api.Graph) (api.Graph, api.Errno) { return Contract(g, 0, 6) },
	}
}

func TestR1(t *testing.T) {
	given := with(7, 0, 1, 0, 5, 1, 2, 2, 3, 2, 5, 3, 5, 4, 5)
	for _, numbers := range [][]int{row(0, 6), row(6, 0), {5, 3, 2}, {}} {
		l, behind := roomy(numbers...)
		for name, call := range makers(l) {
			g := kept(given)
			edges, room := roomy(g.E...)
			g.E = edges
			earlier, code := call(g)
			want := kept(earlier)
			later, _ := call(g)
			spoil(later)
			wantLeft(t, name, g, given)
			again, e := call(g)
			wantMade(t, name+", written over, again", again, e, want, code)
			if slices.ContainsFunc(room, func(e api.Edge) bool { return e != api.Edge{} }) {
				t.Errorf("%s: behind the edges stands %v", name, room)
			}
			spoil(g)
			wantMade(t, name+", what it was handed written over", earlier, code, want, code)
			// What is handed in is not kept: the same list, with other edges.
			other := with(7, 0, 1, 0, 6, 1, 3, 2, 4, 3, 5, 4, 6, 5, 6)
			fresh, e := call(kept(other))
			copy(g.E, other.E)
			got, f := call(g)
			wantMade(t, name+", other edges in the same list", got, f, fresh, e)
		}
		if !slices.Equal(l, numbers) || slices.ContainsFunc(behind, func(v int) bool { return v != 0 }) {
			t.Errorf("of the row %v is left %v, and behind it %v", numbers, l, behind)
		}
	}
}

// TestR1Row: the row is not kept, and what stands behind it is not looked at.
func TestR1Row(t *testing.T) {
	g := ringOf(4)
	l := []int{3, 0, 0, 9}
	wantInduced(t, g, l[:2], with(2, 0, 1), api.OK)
	wantInduced(t, g, l[:3], with(0), api.ErrArg)
	wantInduced(t, g, l, with(0), api.ErrRange)
	earlier, _ := Induced(g, l[:2])
	l[0] = 2
	wantMade(t, "Induced, its row written over", earlier, api.OK, with(2, 0, 1), api.OK)
	wantInduced(t, g, l[:2], with(2), api.OK)
}

func TestR4SameAnswers(t *testing.T) {
	g := full()
	l := append(row(80, 20), row(500, 400)...)
	induced, _ := Induced(g, l)
	deleted, _ := Delete(g, 44)
	contracted, _ := Contract(g, 44, 55)
	for range 20 {
		Induced(ringOf(9), []int{3, 1, 2})
		Delete(ringOf(9), 4)
		Contract(ringOf(9), 0, 8)
		wantInduced(t, g, l, induced, api.OK)
		wantDelete(t, g, 44, deleted, api.OK)
		wantContract(t, g, 44, 55, contracted, api.OK)
	}
}

func FuzzSub(f *testing.F) {
	f.Add(4, []byte{0, 1, 0, 3, 1, 2, 2, 3}, []byte{0, 2, 1})
	f.Add(7, []byte{0, 5, 2, 5, 2, 6, 3, 5, 3, 6, 1, 4, 4, 6}, []byte{3, 5, 6, 2, 255})
	f.Add(9, []byte("\x00\x03\x00\x04\x03\x05\x04\x05\x05\x08\x01\x06\x02\x07"), []byte{3, 0, 0, 9})
	f.Add(-3, []byte{0, 1}, []byte{})
	f.Fuzz(func(t *testing.T, n int, ends, numbers []byte) {
		n = max(n%40, 0)
		chosen := map[api.Edge]bool{}
		for i := 0; i+1 < len(ends); i += 2 {
			a, b := int(ends[i]), int(ends[i+1])
			chosen[api.Edge{A: min(a, b), B: max(a, b)}] = true
		}
		g := api.Graph{N: n}
		for _, e := range pairs(n) {
			if chosen[e] {
				g.E = append(g.E, e)
			}
		}
		var l []int
		for _, b := range numbers[:min(len(numbers), 60)] {
			l = append(l, int(int8(b)))
		}
		want, e := slowInduced(g, l)
		wantInduced(t, g, l, want, e)
		if len(l) < 2 {
			return
		}
		want, e = slowDelete(g, l[0])
		wantDelete(t, g, l[0], want, e)
		want, e = slowContract(g, l[0], l[1])
		wantContract(t, g, l[0], l[1], want, e)
	})
}
