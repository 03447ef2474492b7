package graph

import (
	"fmt"
	"math"
	"slices"
	"testing"

	"carcanet/api"
)

// edges tells the edges of which l has the ends, one behind the other.
func edges(l ...int) []api.Edge {
	var out []api.Edge
	for i := 0; i+1 < len(l); i += 2 {
		out = append(out, api.Edge{A: l[i], B: l[i+1]})
	}
	return out
}

func with(n int, l ...int) api.Graph {
	return api.Graph{N: n, E: edges(l...)}
}

func same(x, y api.Graph) bool {
	return x.N == y.N && slices.Equal(x.E, y.E)
}

func zero(g api.Graph) bool {
	return g.N == 0 && len(g.E) == 0
}

func isOneOf(n, v int) bool {
	return slices.Contains(allOf(n), v)
}

// allOf tells the vertices of a graph of n, as a list to look things up in.
func allOf(n int) []int {
	var out []int
	for v := 0; v < n; v++ {
		out = append(out, v)
	}
	return out
}

// pairs tells all pairs of n vertices, rising: what a full graph's edges are.
func pairs(n int) []api.Edge {
	var out []api.Edge
	for a := range n {
		for b := a + 1; b < n; b++ {
			out = append(out, api.Edge{A: a, B: b})
		}
	}
	return out
}

// told tells whether some edge of l has both a and b.
func told(l []api.Edge, a, b int) bool {
	return slices.Contains(l, api.Edge{A: a, B: b}) || slices.Contains(l, api.Edge{A: b, B: a})
}

// slowNormal goes through all pairs of vertices, in order, and asks for each.
func slowNormal(n int, l []api.Edge) (api.Graph, api.Errno) {
	if n < 0 {
		return api.Graph{}, api.ErrArg
	}
	if n > api.MaxN {
		return api.Graph{}, api.ErrLimit
	}
	for _, e := range l {
		if !isOneOf(n, e.A) || !isOneOf(n, e.B) {
			return api.Graph{}, api.ErrRange
		}
	}
	out := api.Graph{N: n}
	for _, p := range pairs(n) {
		if told(l, p.A, p.B) {
			out.E = append(out.E, p)
		}
	}
	if len(out.E) > api.MaxM {
		return api.Graph{}, api.ErrLimit
	}
	return out, api.OK
}

// slowRight: a graph may be just if it is what is normal of itself.
func slowRight(g api.Graph) bool {
	h, e := slowNormal(g.N, g.E)
	return e == api.OK && same(g, h)
}

func slowNear(g api.Graph, v int) []int {
	var out []int
	if !slowRight(g) {
		return nil
	}
	for _, w := range allOf(g.N) {
		if told(g.E, v, w) {
			out = append(out, w)
		}
	}
	return out
}

func slowAdd(g api.Graph, a, b int) (api.Graph, api.Errno) {
	if !slowRight(g) {
		return api.Graph{}, api.ErrArg
	}
	if !isOneOf(g.N, a) || !isOneOf(g.N, b) {
		return api.Graph{}, api.ErrRange
	}
	if a == b {
		return api.Graph{}, api.ErrArg
	}
	return slowNormal(g.N, append(slices.Clone(g.E), api.Edge{A: a, B: b}))
}

func slowWithout(g api.Graph, a, b int) (api.Graph, api.Errno) {
	if !slowRight(g) {
		return api.Graph{}, api.ErrArg
	}
	if !told(g.E, a, b) {
		return api.Graph{}, api.ErrNone
	}
	var rest []api.Edge
	for _, e := range g.E {
		if !told([]api.Edge{e}, a, b) {
			rest = append(rest, e)
		}
	}
	return api.Graph{N: g.N, E: rest}, api.OK
}

func wantNormal(t *testing.T, n int, l []api.Edge, want api.Graph, wantErr api.Errno) {
	t.Helper()
	before := slices.Clone(l)
	g, e := Normal(n, l)
	if !same(g, want) || e != wantErr {
		t.Errorf("Normal(%d, %v) = %v, %v, want %v, %v", n, l, g, e, want, wantErr)
	}
	if !slices.Equal(l, before) {
		t.Errorf("Normal(%d, %v) left %v", n, before, l)
	}
	if e == api.OK && !Right(g) {
		t.Errorf("Normal(%d, %v) = %v, which is not right", n, l, g)
	}
}

func wantRight(t *testing.T, g api.Graph, want bool) {
	t.Helper()
	if got := Right(g); got != want {
		t.Errorf("Right(%v) = %t, want %t", g, got, want)
	}
}

// wantChanged holds what Add or Without told against what is to be told.
func wantChanged(t *testing.T, call string, g api.Graph, e api.Errno, want api.Graph, wantErr api.Errno) {
	t.Helper()
	if !same(g, want) || e != wantErr {
		t.Errorf("%s = %v, %v, want %v, %v", call, g, e, want, wantErr)
	}
}

func wantAdd(t *testing.T, g api.Graph, a, b int, want api.Graph, wantErr api.Errno) {
	t.Helper()
	h, e := Add(g, a, b)
	wantChanged(t, fmt.Sprintf("Add(%v, %d, %d)", g, a, b), h, e, want, wantErr)
}

func wantWithout(t *testing.T, g api.Graph, a, b int, want api.Graph, wantErr api.Errno) {
	t.Helper()
	h, e := Without(g, a, b)
	wantChanged(t, fmt.Sprintf("Without(%v, %d, %d)", g, a, b), h, e, want, wantErr)
}

func wantNear(t *testing.T, g api.Graph, v int, want ...int) {
	t.Helper()
	if got := Near(g, v); !slices.Equal(got, want) {
		t.Errorf("Near(%v, %d) = %v, want %v", g, v, got, want)
	}
}

func wantHas(t *testing.T, g api.Graph, a, b int, want bool) {
	t.Helper()
	if got := Has(g, a, b); got != want {
		t.Errorf("Has(%v, %d, %d) = %t, want %t", g, a, b, got, want)
	}
}

// full tells a graph of MaxM edges, in which 98 and 100, and 99 and 100, are
// not neighbours, among others.
func full() api.Graph {
	return api.Graph{N: 101, E: pairs(101)[:api.MaxM]}
}

// notRight tells graphs that may not be, one for each way in which one may
// not.
func notRight() map[string]api.Graph {
	many := api.Graph{N: 101, E: pairs(101)[:api.MaxM+1]}
	return map[string]api.Graph{
		"fewer than no vertices":       with(-1),
		"far fewer":                    with(math.MinInt),
		"one vertex too many":          with(api.MaxN + 1),
		"far too many":                 with(math.MaxInt),
		"one edge too many":            many,
		"the greater first":            with(3, 1, 0),
		"the greater first, later":     with(3, 0, 1, 2, 1),
		"a vertex beside itself":       with(3, 1, 1),
		"the same, at the beginning":   with(3, 0, 0, 0, 1),
		"below the first vertex":       with(3, -1, 1),
		"the second one below it":      with(3, 0, -1),
		"both below it":                with(3, -2, -1),
		"behind the last vertex":       with(3, 1, 3),
		"both behind it":               with(3, 3, 4),
		"an edge without vertices":     with(0, 0, 1),
		"an edge of a single vertex":   with(1, 0, 1),
		"the first vertices fall":      with(3, 1, 2, 0, 1),
		"the second ones fall":         with(3, 0, 2, 0, 1),
		"fall at the end":              with(4, 0, 1, 0, 2, 2, 3, 1, 3),
		"an edge twice":                with(3, 0, 1, 0, 1),
		"twice, at the end":            with(3, 0, 1, 1, 2, 1, 2),
		"twice, turned round":          with(3, 0, 1, 1, 0),
		"twice, others between":        with(3, 0, 1, 0, 2, 0, 1),
		"wrong at the end only":        with(4, 0, 1, 0, 2, 1, 4),
		"far behind the last vertex":   with(2, 0, math.MaxInt),
		"far below the first vertex":   with(2, math.MinInt, 1),
		"vertices enough but for one":  with(api.MaxN, 0, api.MaxN),
		"too many vertices, and edges": with(api.MaxN+1, 0, 1),
	}
}

func TestC1Example(t *testing.T) {
	wantNormal(t, 4, edges(2, 1, 0, 0, 1, 2, 3, 0), with(4, 0, 3, 1, 2), api.OK)
}

func TestC1Order(t *testing.T) {
	wantNormal(t, 3, edges(2, 0, 1, 0, 2, 1), with(3, 0, 1, 0, 2, 1, 2), api.OK)
	wantNormal(t, 12, edges(2, 11, 10, 3, 2, 10, 1, 11), with(12, 1, 11, 2, 10, 2, 11, 3, 10), api.OK)
	wantNormal(t, 5, edges(3, 4, 0, 4), with(5, 0, 4, 3, 4), api.OK)
	wantNormal(t, 5, edges(4, 3, 1, 0, 4, 0, 1, 3, 3, 1, 0, 4), with(5, 0, 1, 0, 4, 1, 3, 3, 4), api.OK)
	wantNormal(t, 2, edges(1, 0), with(2, 0, 1), api.OK)
	wantNormal(t, 2, edges(0, 1, 1, 0, 0, 1), with(2, 0, 1), api.OK)
	wantNormal(t, 3, edges(0, 0, 1, 1, 2, 2, 2, 2), with(3), api.OK)
}

func TestC1FewVertices(t *testing.T) {
	wantNormal(t, 0, nil, with(0), api.OK)
	wantNormal(t, 0, []api.Edge{}, with(0), api.OK)
	wantNormal(t, 1, nil, with(1), api.OK)
	wantNormal(t, 1, edges(0, 0), with(1), api.OK)
	wantNormal(t, 7, nil, with(7), api.OK)
}

func TestC1ManyVertices(t *testing.T) {
	last := api.MaxN - 1
	wantNormal(t, api.MaxN, nil, with(api.MaxN), api.OK)
	wantNormal(t, api.MaxN, edges(last, 0, last, last-1), with(api.MaxN, 0, last, last-1, last), api.OK)
	wantNormal(t, api.MaxN, edges(last, last), with(api.MaxN), api.OK)
	wantNormal(t, api.MaxN+1, nil, api.Graph{}, api.ErrLimit)
	wantNormal(t, api.MaxN+1, edges(0, 1), api.Graph{}, api.ErrLimit)
	wantNormal(t, math.MaxInt, nil, api.Graph{}, api.ErrLimit)
}

func TestC1ManyEdges(t *testing.T) {
	all := pairs(101)
	least, more := all[:api.MaxM], all[:api.MaxM+1]
	wantNormal(t, 101, least, full(), api.OK)
	wantNormal(t, 101, more, api.Graph{}, api.ErrLimit)
	wantNormal(t, 101, all, api.Graph{}, api.ErrLimit)

	var turned []api.Edge
	for _, e := range least {
		turned = append(turned, api.Edge{A: e.B, B: e.A})
	}
	slices.Reverse(turned)
	wantNormal(t, 101, turned, full(), api.OK)
	// Edges that are told twice, and those of a vertex with itself, don't count.
	wantNormal(t, 101, slices.Concat(turned, least, edges(100, 100, 7, 7)), full(), api.OK)
	wantNormal(t, 101, slices.Concat(turned, least, all[api.MaxM:api.MaxM+1]), api.Graph{}, api.ErrLimit)
	wantNormal(t, 2, slices.Repeat(edges(1, 0), api.MaxM+1), with(2, 0, 1), api.OK)
	wantNormal(t, 1, slices.Repeat(edges(0, 0), api.MaxM+1), with(1), api.OK)
}

func TestC1WrongInputs(t *testing.T) {
	wantNormal(t, -1, nil, api.Graph{}, api.ErrArg)
	wantNormal(t, math.MinInt, nil, api.Graph{}, api.ErrArg)
	wantNormal(t, 2, edges(0, 2), api.Graph{}, api.ErrRange)
	wantNormal(t, 2, edges(2, 0), api.Graph{}, api.ErrRange)
	wantNormal(t, 2, edges(-1, 0), api.Graph{}, api.ErrRange)
	wantNormal(t, 2, edges(0, -1), api.Graph{}, api.ErrRange)
	wantNormal(t, 2, edges(0, 1, 1, 2), api.Graph{}, api.ErrRange)
	wantNormal(t, 2, edges(1, 0, 0, math.MinInt), api.Graph{}, api.ErrRange)
	wantNormal(t, 2, edges(math.MaxInt, 1), api.Graph{}, api.ErrRange)
	// An edge of one with itself is passed over only where that is a vertex.
	wantNormal(t, 2, edges(2, 2), api.Graph{}, api.ErrRange)
	wantNormal(t, 2, edges(-1, -1), api.Graph{}, api.ErrRange)
	wantNormal(t, 0, edges(0, 0), api.Graph{}, api.ErrRange)
	wantNormal(t, 0, edges(0, 1), api.Graph{}, api.ErrRange)
}

func TestC1OrderOfErrors(t *testing.T) {
	more := pairs(101)[:api.MaxM+1]
	wantNormal(t, -1, edges(5, -1), api.Graph{}, api.ErrArg)
	wantNormal(t, -1, more, api.Graph{}, api.ErrArg)
	wantNormal(t, api.MaxN+1, edges(5, -1), api.Graph{}, api.ErrLimit)
	wantNormal(t, 101, slices.Concat(more, edges(0, 101)), api.Graph{}, api.ErrRange)
	wantNormal(t, 101, slices.Concat(more, edges(-1, -1)), api.Graph{}, api.ErrRange)
	wantNormal(t, 100, more, api.Graph{}, api.ErrRange)
}

// eachList goes through all lists of at most m edges with ends from low to
// high.
func eachList(m, low, high int, visit func(l []api.Edge)) {
	var l []api.Edge
	var more func()
	more = func() {
		visit(slices.Clone(l))
		if len(l) == m {
			return
		}
		for a := low; a <= high; a++ {
			for b := low; b <= high; b++ {
				l = append(l, api.Edge{A: a, B: b})
				more()
				l = l[:len(l)-1]
			}
		}
	}
	more()
}

func TestC1AllShortLists(t *testing.T) {
	for n := -1; n <= 3; n++ {
		eachList(3, -1, n, func(l []api.Edge) {
			want, e := slowNormal(n, l)
			wantNormal(t, n, l, want, e)
			wantRight(t, api.Graph{N: n, E: l}, slowRight(api.Graph{N: n, E: l}))
		})
	}
}

func TestC1WhatIsNormalStays(t *testing.T) {
	for _, g := range []api.Graph{with(0), with(5), with(4, 0, 3, 1, 2), {N: 20, E: pairs(20)}, full(), {N: api.MaxN, E: pairs(90)[:api.MaxM]}} {
		wantNormal(t, g.N, g.E, g, api.OK)
	}
}

func TestC1HowToldDoesNotMatter(t *testing.T) {
	g := with(9, 0, 1, 0, 8, 1, 2, 2, 3, 2, 7, 3, 8, 4, 5, 5, 6, 6, 7, 7, 8)
	for shift := range g.E {
		l := slices.Concat(g.E[shift:], g.E[:shift], g.E[shift:])
		for i := range l {
			if i%3 == shift%3 {
				l[i] = api.Edge{A: l[i].B, B: l[i].A}
			}
		}
		wantNormal(t, 9, l, g, api.OK)
		slices.Reverse(l)
		wantNormal(t, 9, l, g, api.OK)
	}
}

func TestC1Right(t *testing.T) {
	last := api.MaxN - 1
	for _, g := range []api.Graph{{}, with(1), {N: 1, E: []api.Edge{}}, with(2), with(2, 0, 1), with(3, 0, 1, 0, 2, 1, 2), with(5, 0, 4, 1, 2), with(5, 3, 4), with(api.MaxN), with(api.MaxN, 0, last, last-1, last), full()} {
		wantRight(t, g, true)
	}
	for name, g := range notRight() {
		if Right(g) {
			t.Errorf("%s: right", name)
		}
	}
}

func TestC2HasNearDegrees(t *testing.T) {
	g := with(6, 0, 2, 0, 3, 1, 2, 2, 4)
	wantNear(t, g, 0, 2, 3)
	wantNear(t, g, 1, 2)
	wantNear(t, g, 2, 0, 1, 4)
	wantNear(t, g, 3, 0)
	wantNear(t, g, 4, 2)
	wantNear(t, g, 5)
	if got := Degrees(g); !slices.Equal(got, []int{2, 1, 3, 1, 1, 0}) {
		t.Errorf("Degrees = %v", got)
	}
	wantHas(t, g, 4, 2, true)
	wantHas(t, g, 2, 4, true)
	wantHas(t, g, 0, 3, true)
	wantHas(t, g, 1, 3, false)
	wantHas(t, g, 2, 2, false)
	wantHas(t, g, 0, 0, false)
	wantHas(t, g, 5, 0, false)
}

func TestC2WhatIsNoVertex(t *testing.T) {
	for _, g := range []api.Graph{with(0), with(1), with(3, 0, 1, 0, 2, 1, 2), with(api.MaxN, 0, 999)} {
		for _, no := range []int{-1, g.N, g.N + 1, math.MinInt, math.MaxInt} {
			wantNear(t, g, no)
			wantHas(t, g, no, 0, false)
			wantHas(t, g, 0, no, false)
			wantHas(t, g, no, no, false)
			wantHas(t, g, no, g.N-1, false)
			wantHas(t, g, g.N-1, no, false)
		}
	}
}

func TestC2FirstAndLast(t *testing.T) {
	last := api.MaxN - 1
	g := with(api.MaxN, 0, last, last-1, last)
	wantNear(t, g, 0, last)
	wantNear(t, g, last, 0, last-1)
	wantNear(t, g, 1)
	wantHas(t, g, last, 0, true)
	wantHas(t, g, 0, last, true)
	wantHas(t, g, last-1, last, true)
	wantHas(t, g, 0, last-1, false)
	want := make([]int, api.MaxN)
	want[0], want[last-1], want[last] = 1, 1, 2
	if got := Degrees(g); !slices.Equal(got, want) {
		t.Errorf("Degrees = %v", got)
	}
}

func TestC2NoVertexAndNoEdge(t *testing.T) {
	if got := Degrees(with(0)); len(got) != 0 {
		t.Errorf("Degrees of no vertex = %v", got)
	}
	if got := Degrees(with(3)); !slices.Equal(got, []int{0, 0, 0}) {
		t.Errorf("Degrees without edges = %v", got)
	}
	wantNear(t, with(3), 1)
	wantHas(t, with(3), 0, 1, false)
}

func TestC2ManyEdges(t *testing.T) {
	g := full()
	wantQueries(t, g, 0, g.N-1)
}

// wantQueries holds Has, Near and Degrees against the slow ones, for all of
// low to high.
func wantQueries(t *testing.T, g api.Graph, low, high int) {
	t.Helper()
	degrees := Degrees(g)
	if !slowRight(g) && len(degrees) != 0 || slowRight(g) && len(degrees) != g.N {
		t.Fatalf("Degrees(%v) = %v", g, degrees)
	}
	for v := low; v <= high; v++ {
		want := slowNear(g, v)
		wantNear(t, g, v, want...)
		if v >= 0 && v < len(degrees) && degrees[v] != len(want) {
			t.Errorf("Degrees(%v)[%d] = %d, want %d", g, v, degrees[v], len(want))
		}
		for w := low; w <= high; w++ {
			wantHas(t, g, v, w, slices.Contains(want, w))
		}
	}
}

// eachGraph goes through all right graphs of n vertices.
func eachGraph(n int, visit func(g api.Graph)) {
	all := pairs(n)
	for chosen := range 1 << len(all) {
		g := api.Graph{N: n}
		for i, p := range all {
			if chosen>>i&1 == 1 {
				g.E = append(g.E, p)
			}
		}
		visit(g)
	}
}

func TestC2AllSmallGraphs(t *testing.T) {
	for n := range 6 {
		eachGraph(n, func(g api.Graph) {
			wantQueries(t, g, -1, n)
		})
	}
}

func TestC2NotRight(t *testing.T) {
	for name, g := range notRight() {
		if got := Degrees(g); len(got) != 0 {
			t.Errorf("%s: Degrees = %v", name, got)
		}
		for v := -1; v <= 4; v++ {
			if got := Near(g, v); len(got) != 0 {
				t.Errorf("%s: Near(%d) = %v", name, v, got)
			}
			for w := -1; w <= 4; w++ {
				if Has(g, v, w) {
					t.Errorf("%s: Has(%d, %d)", name, v, w)
				}
			}
		}
		for _, e := range g.E {
			if Has(g, e.A, e.B) || Has(g, e.B, e.A) {
				t.Errorf("%s: Has(%d, %d)", name, e.A, e.B)
			}
		}
	}
}

func TestC3Add(t *testing.T) {
	g := with(5, 0, 2, 1, 2, 2, 4)
	wantAdd(t, g, 0, 1, with(5, 0, 1, 0, 2, 1, 2, 2, 4), api.OK)
	wantAdd(t, g, 1, 0, with(5, 0, 1, 0, 2, 1, 2, 2, 4), api.OK)
	wantAdd(t, g, 0, 4, with(5, 0, 2, 0, 4, 1, 2, 2, 4), api.OK)
	wantAdd(t, g, 3, 2, with(5, 0, 2, 1, 2, 2, 3, 2, 4), api.OK)
	wantAdd(t, g, 4, 3, with(5, 0, 2, 1, 2, 2, 4, 3, 4), api.OK)
	wantAdd(t, with(2), 1, 0, with(2, 0, 1), api.OK)
	wantAdd(t, with(api.MaxN), api.MaxN-1, 0, with(api.MaxN, 0, api.MaxN-1), api.OK)
}

func TestC3AddNeighbours(t *testing.T) {
	g := with(5, 0, 2, 1, 2, 2, 4)
	for _, e := range g.E {
		wantAdd(t, g, e.A, e.B, g, api.OK)
		wantAdd(t, g, e.B, e.A, g, api.OK)
	}
}

func TestC3AddWrongInputs(t *testing.T) {
	g := with(3, 0, 1)
	for _, no := range []int{-1, 3, 4, math.MinInt, math.MaxInt} {
		wantAdd(t, g, no, 0, api.Graph{}, api.ErrRange)
		wantAdd(t, g, 0, no, api.Graph{}, api.ErrRange)
		wantAdd(t, g, no, no, api.Graph{}, api.ErrRange)
	}
	wantAdd(t, with(0), 0, 0, api.Graph{}, api.ErrRange)
	wantAdd(t, with(1), 0, 0, api.Graph{}, api.ErrArg)
	for v := range 3 {
		wantAdd(t, g, v, v, api.Graph{}, api.ErrArg)
	}
}

func TestC3AddToManyEdges(t *testing.T) {
	g := full()
	wantAdd(t, g, 99, 100, api.Graph{}, api.ErrLimit)
	wantAdd(t, g, 100, 98, api.Graph{}, api.ErrLimit)
	wantAdd(t, g, 0, 1, g, api.OK)
	end := g.E[api.MaxM-1]
	wantAdd(t, g, end.B, end.A, g, api.OK)
	wantAdd(t, g, 100, 100, api.Graph{}, api.ErrArg)
	wantAdd(t, g, 99, 101, api.Graph{}, api.ErrRange)
	oneLess := api.Graph{N: g.N, E: g.E[:api.MaxM-1]}
	wantAdd(t, oneLess, end.A, end.B, g, api.OK)
}

func TestC3Without(t *testing.T) {
	g := with(5, 0, 2, 0, 3, 1, 2, 2, 4)
	wantWithout(t, g, 3, 0, with(5, 0, 2, 1, 2, 2, 4), api.OK)
	wantWithout(t, g, 0, 2, with(5, 0, 3, 1, 2, 2, 4), api.OK)
	wantWithout(t, g, 4, 2, with(5, 0, 2, 0, 3, 1, 2), api.OK)
	wantWithout(t, with(2, 0, 1), 1, 0, with(2), api.OK)
	end := full().E[api.MaxM-1]
	wantWithout(t, full(), end.A, end.B, api.Graph{N: 101, E: full().E[:api.MaxM-1]}, api.OK)
}

func TestC3WithoutWrongInputs(t *testing.T) {
	g := with(5, 0, 2, 0, 3, 1, 2, 2, 4)
	wantWithout(t, g, 0, 1, api.Graph{}, api.ErrNone)
	wantWithout(t, g, 3, 4, api.Graph{}, api.ErrNone)
	wantWithout(t, g, 2, 2, api.Graph{}, api.ErrNone)
	wantWithout(t, with(0), 0, 0, api.Graph{}, api.ErrNone)
	wantWithout(t, with(3), 0, 1, api.Graph{}, api.ErrNone)
	for _, no := range []int{-1, 5, 6, math.MinInt, math.MaxInt} {
		wantWithout(t, g, no, 0, api.Graph{}, api.ErrNone)
		wantWithout(t, g, 2, no, api.Graph{}, api.ErrNone)
		wantWithout(t, g, no, no, api.Graph{}, api.ErrNone)
	}
}

func TestC3NotRight(t *testing.T) {
	for name, g := range notRight() {
		for v := -1; v <= 4; v++ {
			for w := -1; w <= 4; w++ {
				if h, e := Add(g, v, w); !zero(h) || e != api.ErrArg {
					t.Errorf("%s: Add(%d, %d) = %v, %v", name, v, w, h, e)
				}
				if h, e := Without(g, v, w); !zero(h) || e != api.ErrArg {
					t.Errorf("%s: Without(%d, %d) = %v, %v", name, v, w, h, e)
				}
			}
		}
	}
}

func TestC3AllSmallGraphs(t *testing.T) {
	for n := range 5 {
		eachGraph(n, func(g api.Graph) {
			for a := -1; a <= n; a++ {
				for b := -1; b <= n; b++ {
					more, e := slowAdd(g, a, b)
					wantAdd(t, g, a, b, more, e)
					less, e := slowWithout(g, a, b)
					wantWithout(t, g, a, b, less, e)
				}
			}
		})
	}
}

// calls hands the graph to each call, and tells the lists of what they tell.
func calls(g api.Graph, a, b int) [][]api.Edge {
	normal, _ := Normal(g.N, g.E)
	Right(g)
	Has(g, a, b)
	Near(g, a)
	Degrees(g)
	more, _ := Add(g, a, b)
	less, _ := Without(g, a, b)
	return [][]api.Edge{normal.E, more.E, less.E}
}

func TestC1C2C3HandedInStays(t *testing.T) {
	// Room behind the edges, that a call could write to.
	room := append(make([]api.Edge, 0, 16), edges(0, 2, 1, 2, 2, 4, 3, 4)...)
	spare := room[len(room):cap(room)]
	g := api.Graph{N: 5, E: room}
	for a := range 5 {
		for b := range 5 {
			calls(g, a, b)
			if !same(g, with(5, 0, 2, 1, 2, 2, 4, 3, 4)) || slices.ContainsFunc(spare, func(e api.Edge) bool { return e != api.Edge{} }) {
				t.Fatalf("%d, %d: left %v, and behind it %v", a, b, g, spare)
			}
		}
	}
}

func TestC1C2C3NothingShared(t *testing.T) {
	want := with(5, 0, 2, 1, 2, 2, 4, 3, 4)
	for a := range 5 {
		for b := range 5 {
			g := api.Graph{N: 5, E: append(make([]api.Edge, 0, 16), want.E...)}
			for _, l := range calls(g, a, b) {
				for i := range l {
					l[i] = api.Edge{A: -7, B: -7}
				}
				_ = append(l, api.Edge{A: -7, B: -7})
			}
			if !same(g, want) {
				t.Errorf("%d, %d: writing over what was told left %v", a, b, g)
			}
			before := calls(g, a, b)
			kept := make([][]api.Edge, len(before))
			for i, l := range before {
				kept[i] = slices.Clone(l)
			}
			for i := range g.E {
				g.E[i] = api.Edge{A: -7, B: -7}
			}
			for i, l := range before {
				if !slices.Equal(l, kept[i]) {
					t.Errorf("%d, %d: writing over what was handed in left %v of %v", a, b, l, kept[i])
				}
			}
		}
	}
	g := with(3, 0, 1, 0, 2)
	Near(g, 0)[0] = 9
	Degrees(g)[0] = 9
	wantNear(t, g, 0, 1, 2)
	if got := Degrees(g); !slices.Equal(got, []int{2, 1, 1}) {
		t.Errorf("Degrees = %v", got)
	}
}

func FuzzC1C2C3(f *testing.F) {
	f.Add(4, []byte{2, 1, 0, 0, 1, 2, 3, 0}, 1, 2)
	f.Add(12, []byte{11, 0, 0, 11, 3, 10, 10, 3, 2, 2, 1, 9}, 10, 3)
	f.Add(2, []byte{0, 1, 1, 2}, 0, 1)
	f.Add(-1, []byte{0, 0}, 0, -1)
	f.Add(1001, []byte{}, 1000, 0)
	f.Add(30, []byte("some thirty edges, of which many are behind the last vertex"), 3, 29)
	f.Fuzz(func(t *testing.T, n int, ends []byte, a, b int) {
		if n > 64 && n <= api.MaxN {
			n %= 64 // the slow ones look at all pairs
		}
		var l []api.Edge
		for i := 0; i+1 < len(ends); i += 2 {
			l = append(l, api.Edge{A: int(int8(ends[i])), B: int(int8(ends[i+1]))})
		}
		want, e := slowNormal(n, l)
		wantNormal(t, n, l, want, e)
		for _, g := range []api.Graph{want, {N: n, E: l}} {
			wantRight(t, g, slowRight(g))
			near := slowNear(g, a)
			wantNear(t, g, a, near...)
			wantHas(t, g, a, b, slices.Contains(near, b))
			more, e := slowAdd(g, a, b)
			wantAdd(t, g, a, b, more, e)
			less, e := slowWithout(g, a, b)
			wantWithout(t, g, a, b, less, e)
		}
	})
}
