package minor

import (
	"fmt"
	"math"
	"slices"
	"testing"

	"carcanet/api"
	"carcanet/graph"
	"carcanet/sub"
)

// with tells the graph whose edges have the ends l, one behind the other.
func with(n int, l ...int) api.Graph {
	g := api.Graph{N: n}
	for i := 0; i+1 < len(l); i += 2 {
		g.E = append(g.E, api.Edge{A: l[i], B: l[i+1]})
	}
	return g
}

// row tells the numbers from first to last, also if they fall.
func row(first, last int) []int {
	if first > last {
		out := row(last, first)
		slices.Reverse(out)
		return out
	}
	out := []int{}
	for v := first; v <= last; v++ {
		out = append(out, v)
	}
	return out
}

func pathOf(n int) api.Graph {
	g := api.Graph{N: n}
	for v := 0; v+1 < n; v++ {
		g.E = append(g.E, api.Edge{A: v, B: v + 1})
	}
	return g
}

// ringOf is pathOf, and the first and the last vertex are neighbours.
func ringOf(n int) api.Graph {
	g := pathOf(n)
	g.E = slices.Insert(g.E, 1, api.Edge{A: 0, B: n - 1})
	return g
}

// pairs tells all pairs of n vertices, rising: what a full graph's edges are.
func pairs(n int) []api.Edge {
	var out []api.Edge
	for a := range n {
		for b := a + 1; b < n; b++ {
			out = append(out, api.Edge{A: a, B: b})
		}
	}
	return out
}

// full has as many edges as there may be, among the first 90 vertices.
func full() api.Graph {
	return api.Graph{N: api.MaxN, E: pairs(90)[:api.MaxM]}
}

// eachGraph goes through all graphs of n vertices.
func eachGraph(n int, visit func(g api.Graph)) {
	all := pairs(n)
	for chosen := range 1 << len(all) {
		g := api.Graph{N: n}
		for i, e := range all {
			if chosen>>i&1 == 1 {
				g.E = append(g.E, e)
			}
		}
		visit(g)
	}
}

// eachRow goes through all rows of at most m numbers from low to high.
func eachRow(m, low, high int, visit func(l []int)) {
	var l []int
	var more func()
	more = func() {
		visit(l)
		if len(l) == m {
			return
		}
		for v := low; v <= high; v++ {
			l = append(l, v)
			more()
			l = l[:len(l)-1]
		}
	}
	more()
}

// brief tells what stands in a message, so that great graphs don't fill it.
func brief(what ...any) string {
	text := fmt.Sprint(what...)
	if len(text) > 400 {
		return text[:400] + " .."
	}
	return text
}

// notRight tells graphs that may not be, in each of the ways. But for that,
// most of them have vertices 0, 1 and 2, and 0 and 1 beside each other.
func notRight() map[string]api.Graph {
	return map[string]api.Graph{
		"fewer than no vertices":     with(-1),
		"fewer, with an edge":        with(-1, 0, 1),
		"far fewer":                  with(math.MinInt, 0, 1),
		"one vertex too many":        with(api.MaxN + 1),
		"too many, with edges":       with(api.MaxN+1, 0, 1, 0, 2, 1, 2),
		"far too many":               with(math.MaxInt, 0, 1, 0, 2, 1, 2),
		"one edge too many":          {N: 101, E: pairs(101)[:api.MaxM+1]},
		"the greater first":          with(3, 1, 0),
		"the greater first, later":   with(3, 0, 1, 2, 1),
		"a vertex beside itself":     with(3, 0, 0, 0, 1),
		"below the first vertex":     with(3, -1, 0, 0, 1),
		"the second one below it":    with(3, 0, -1, 0, 1),
		"both below it":              with(3, -2, -1, 0, 1),
		"behind the last vertex":     with(3, 0, 1, 0, 3),
		"both behind it":             with(3, 0, 1, 3, 4),
		"far behind it":              with(3, 0, 1, 0, math.MaxInt),
		"far below":                  with(3, math.MinInt, 1),
		"an edge without vertices":   with(0, 0, 1),
		"an edge of a single vertex": with(1, 0, 1),
		"the first vertices fall":    with(3, 1, 2, 0, 1),
		"the second ones fall":       with(3, 0, 2, 0, 1, 1, 2),
		"an edge twice":              with(3, 0, 1, 0, 1, 0, 2, 1, 2),
		"twice, turned round":        with(3, 0, 1, 1, 0, 1, 2),
		"twice, others between":      with(3, 0, 1, 0, 2, 0, 1),
		"wrong at the end only":      with(4, 0, 1, 0, 2, 1, 2, 1, 4),
	}
}

// slowWanted is what H1 says of the patterns: how many vertices there are, and
// whether two of them are neighbours.
func slowWanted(kind int) (int, func(i, k int) bool) {
	switch kind {
	case 1:
		return 4, func(i, k int) bool { return i != k }
	case 2:
		return 5, func(i, k int) bool { return min(i, k) < 2 && max(i, k) >= 2 }
	}
	return 0, func(i, k int) bool { return false }
}

func beside(g api.Graph, a, b int) bool {
	return slices.Contains(g.E, api.Edge{A: min(a, b), B: max(a, b)})
}

// slowWhole is what 5 says of a set of a right graph's vertices: what is
// reached from its first one grows till it grows no more.
func slowWhole(g api.Graph, l []int) bool {
	if len(l) == 0 {
		return false
	}
	for i, v := range l {
		if v < 0 || v >= g.N || slices.Contains(l[:i], v) {
			return false
		}
	}
	reached := []int{l[0]}
	for last := 0; last < len(reached); {
		last = len(reached)
		for _, v := range l {
			if !slices.Contains(reached, v) && slices.ContainsFunc(reached, func(w int) bool { return beside(g, v, w) }) {
				reached = append(reached, v)
			}
		}
	}
	return len(reached) == len(l)
}

// slowCheck is what H2 says of a right graph, word by word.
func slowCheck(g api.Graph, m Model) bool {
	n, wanted := slowWanted(m.Kind)
	if n == 0 || len(m.Sets) != n {
		return false
	}
	for i, set := range m.Sets {
		if !slowWhole(g, set) {
			return false
		}
		for k, other := range m.Sets {
			linked := false
			for _, v := range set {
				if i != k && slices.Contains(other, v) {
					return false
				}
				linked = linked || slices.ContainsFunc(other, func(w int) bool { return beside(g, v, w) })
			}
			if wanted(i, k) && !linked {
				return false
			}
		}
	}
	return true
}

// slowOpened tells how those that are left, without the number out, are called
// when it is among them again: by their places in the list of all but it.
func slowOpened(set []int, out int) []int {
	left := slices.DeleteFunc(row(0, 60), func(v int) bool { return v == out })
	var opened []int
	for _, v := range set {
		if v >= 0 {
			v = left[v]
		}
		opened = append(opened, v)
	}
	return opened
}

// slowLift is what H3 says of it, for numbers below 60.
func slowLift(m Model, a, b int) Model {
	out := Model{Kind: m.Kind}
	for _, set := range m.Sets {
		if a == b || a < 0 || b < 0 {
			out.Sets = append(out.Sets, slices.Clone(set))
			continue
		}
		if a > b {
			a, b = b, a
		}
		lifted := slowOpened(set, b)
		if slices.Contains(set, a) {
			lifted = append(lifted, b)
		}
		out.Sets = append(out.Sets, lifted)
	}
	return out
}

// slowDrop is what H3 says of it, for numbers below 60.
func slowDrop(m Model, v int) Model {
	out := Model{Kind: m.Kind}
	for _, set := range m.Sets {
		if v < 0 {
			out.Sets = append(out.Sets, slices.Clone(set))
			continue
		}
		out.Sets = append(out.Sets, slowOpened(set, v))
	}
	return out
}

func same(x, y Model) bool {
	return x.Kind == y.Kind && slices.EqualFunc(x.Sets, y.Sets, slices.Equal[[]int])
}

// kept tells a model that shares nothing with x.
func kept(x Model) Model {
	out := Model{Kind: x.Kind}
	for _, set := range x.Sets {
		out.Sets = append(out.Sets, append([]int{}, set...))
	}
	return out
}

// wantCheck also asks whether what is handed in stays as it was.
func wantCheck(t *testing.T, g api.Graph, m Model, want bool) {
	t.Helper()
	edges, before := slices.Clone(g.E), kept(m)
	if got := Check(g, m); got != want {
		t.Errorf("Check of %s is %t", brief(m, " in ", g), got)
	}
	if !slices.Equal(g.E, edges) || !same(m, before) {
		t.Errorf("Check of %s left %s", brief(before, " in ", g.N, edges), brief(m, " in ", g))
	}
}

func wantModel(t *testing.T, call string, m, before, got, want Model) {
	t.Helper()
	if !same(got, want) {
		t.Errorf("%s is %s, not %s", call, brief(got), brief(want))
	}
	if !same(m, before) {
		t.Errorf("%s left %s", call, brief(m))
	}
}

func wantLift(t *testing.T, m Model, a, b int, want Model) {
	t.Helper()
	before := kept(m)
	wantModel(t, brief("Lift of ", m, " by ", a, ", ", b), m, before, Lift(m, a, b), want)
}

func wantDrop(t *testing.T, m Model, v int, want Model) {
	t.Helper()
	before := kept(m)
	wantModel(t, brief("Drop of ", m, " by ", v), m, before, Drop(m, v), want)
}

// a4 and a23 are models, whatever is true of them; none is one of no pattern.
func a4(sets ...[]int) Model   { return Model{Kind: K4, Sets: sets} }
func a23(sets ...[]int) Model  { return Model{Kind: K23, Sets: sets} }
func none(sets ...[]int) Model { return Model{Kind: 0, Sets: sets} }

// singles tells sets of one vertex each.
func singles(l ...int) [][]int {
	var out [][]int
	for _, v := range l {
		out = append(out, []int{v})
	}
	return out
}

// noPatterns are kinds that are none.
func noPatterns() []int {
	return []int{0, 3, 4, 5, 23, 24, -1, -2, 257, 258, 1 << 32, 1<<32 + 1, 1<<32 + 2, math.MaxInt, math.MinInt, math.MinInt + 1, math.MinInt + 2}
}

// eachOrder goes through all orders of the sets.
func eachOrder(sets [][]int, visit func(sets [][]int, places []int)) {
	eachRow(len(sets), 0, len(sets)-1, func(places []int) {
		if len(places) < len(sets) {
			return
		}
		var turned [][]int
		for i, k := range places {
			if slices.Contains(places[:i], k) {
				return
			}
			turned = append(turned, sets[k])
		}
		visit(turned, places)
	})
}

// eachSharing goes through all ways to put each of n vertices into one of k
// sets, or into none.
func eachSharing(n, k int, visit func(sets [][]int)) {
	eachRow(n, 0, k, func(homes []int) {
		if len(homes) < n {
			return
		}
		sets := make([][]int, k+1)
		for v, i := range homes {
			sets[i] = append(sets[i], v)
		}
		visit(sets[:k])
	})
}

func TestH1Kinds(t *testing.T) {
	if K4 != 1 || K23 != 2 {
		t.Errorf("K4 is %d, K23 %d", K4, K23)
	}
}

func TestH1Patterns(t *testing.T) {
	for kind, want := range map[int]api.Graph{
		K4:  with(4, 0, 1, 0, 2, 0, 3, 1, 2, 1, 3, 2, 3),
		K23: with(5, 0, 2, 0, 3, 0, 4, 1, 2, 1, 3, 1, 4),
	} {
		got := Pattern(kind)
		if got.N != want.N || !slices.Equal(got.E, want.E) || !graph.Right(got) {
			t.Errorf("Pattern of %d is %v", kind, got)
		}
		n, wanted := slowWanted(kind)
		for a := range n {
			for b := range n {
				if graph.Has(got, a, b) != wanted(a, b) {
					t.Errorf("in the pattern of %d, of %d and %d is told %t", kind, a, b, !wanted(a, b))
				}
			}
		}
	}
}

func TestH1NoPattern(t *testing.T) {
	for _, kind := range noPatterns() {
		if got := Pattern(kind); got.N != 0 || len(got.E) != 0 {
			t.Errorf("Pattern of %d is %v", kind, got)
		}
	}
}

// wheel is the document's example: a ring with a chord, and a vertex beside
// those that have none.
func wheel() api.Graph {
	return with(5, 0, 1, 0, 2, 0, 3, 1, 2, 1, 4, 2, 3, 3, 4)
}

func TestH2Example(t *testing.T) {
	wantCheck(t, wheel(), a4([]int{0}, []int{1}, []int{2}, []int{3, 4}), true)
	wantCheck(t, wheel(), a4([]int{0}, []int{1}, []int{2}, []int{3}), false)
}

func TestH2Patterns(t *testing.T) {
	wantCheck(t, Pattern(K4), a4(singles(0, 1, 2, 3)...), true)
	wantCheck(t, Pattern(K23), a23(singles(0, 1, 2, 3, 4)...), true)
	wantCheck(t, Pattern(K23), a4(singles(0, 1, 2, 3)...), false)
	wantCheck(t, Pattern(K4), a23(singles(0, 1, 2, 3, 3)...), false)
	// A K23 needs five vertices: a K4 has none, whichever they are.
	eachRow(5, 0, 3, func(l []int) { wantCheck(t, Pattern(K4), a23(singles(l...)...), false) })
	five := api.Graph{N: 5, E: pairs(5)}
	wantCheck(t, five, a23(singles(4, 1, 3, 0, 2)...), true)
	wantCheck(t, five, a4(singles(4, 1, 3, 0)...), true)
	wantCheck(t, five, a4([]int{4, 2}, []int{1}, []int{3}, []int{0}), true)
}

// TestH2Orders: all orders of a K4's sets make a model, but of a K23's those
// alone that leave the two apart from the three.
func TestH2Orders(t *testing.T) {
	eachOrder([][]int{{0}, {1}, {2}, {3, 4}}, func(sets [][]int, places []int) {
		wantCheck(t, wheel(), a4(sets...), true)
	})
	eachOrder([][]int{{1}, {3}, {0}, {2}, {4}}, func(sets [][]int, places []int) {
		wantCheck(t, wheel(), a23(sets...), max(places[0], places[1]) < 2)
	})
	eachOrder(singles(0, 1, 2, 3, 4), func(sets [][]int, places []int) {
		wantCheck(t, api.Graph{N: 5, E: pairs(5)}, a23(sets...), true)
	})
	// So do all orders of the vertices of a set.
	g := with(7, 0, 1, 0, 2, 0, 3, 1, 2, 1, 6, 2, 5, 3, 4, 4, 5, 4, 6)
	eachOrder(singles(3, 4, 5, 6), func(sets [][]int, places []int) {
		wantCheck(t, g, a4([]int{0}, []int{1}, []int{2}, slices.Concat(sets...)), true)
		wantCheck(t, g, a4([]int{0}, slices.Concat(sets...), []int{2}, []int{1}), true)
		// Without one of them, it is no model any more.
		wantCheck(t, g, a4([]int{0}, []int{1}, []int{2}, slices.Concat(sets[:3]...)), false)
	})
}

func TestH2NoPattern(t *testing.T) {
	g := api.Graph{N: 5, E: pairs(5)}
	for _, kind := range noPatterns() {
		for k := range 6 {
			wantCheck(t, g, Model{Kind: kind, Sets: singles(row(0, k-1)...)}, false)
		}
		wantCheck(t, with(0), Model{Kind: kind}, false)
		wantCheck(t, with(0), Model{Kind: kind, Sets: [][]int{}}, false)
		wantCheck(t, with(0), Model{Kind: kind, Sets: [][]int{{}}}, false)
	}
}

func TestH2HowManySets(t *testing.T) {
	g := api.Graph{N: 9, E: pairs(9)}
	for _, kind := range []int{K4, K23} {
		n, _ := slowWanted(kind)
		for k := range 9 {
			wantCheck(t, g, Model{Kind: kind, Sets: singles(row(0, k-1)...)}, k == n)
		}
		full := singles(row(0, n-1)...)
		wantCheck(t, g, Model{Kind: kind, Sets: slices.Concat(full, [][]int{{}})}, false)
		wantCheck(t, g, Model{Kind: kind, Sets: slices.Concat(full, [][]int{nil})}, false)
		wantCheck(t, g, Model{Kind: kind, Sets: slices.Concat([][]int{{}}, full)}, false)
		wantCheck(t, g, Model{Kind: kind, Sets: make([][]int, n)}, false)
		wantCheck(t, with(0), Model{Kind: kind}, false)
		wantCheck(t, with(0), Model{Kind: kind, Sets: make([][]int, n)}, false)
	}
}

// spoilt tells what m becomes if the set at a place is another one.
func spoilt(m Model, place int, set ...int) Model {
	out := kept(m)
	out.Sets[place] = set
	return out
}

// TestH2WrongSets: each place in turn has a set that may not be. The vertices
// 5 and 6 are beside all others, 7 is alone, so that there is a way about.
func TestH2WrongSets(t *testing.T) {
	g := api.Graph{N: 8, E: pairs(7)}
	for _, m := range []Model{a4(singles(0, 1, 2, 3)...), a23(singles(0, 1, 2, 3, 4)...), a4([]int{0}, []int{1, 5}, []int{2, 4}, []int{3, 6})} {
		wantCheck(t, g, m, true)
		for i, set := range m.Sets {
			v := set[0]
			wantCheck(t, g, spoilt(m, i), false)
			wantCheck(t, g, spoilt(m, i, []int{}...), false)
			wantCheck(t, g, spoilt(m, i, v, v), false)
			wantCheck(t, g, spoilt(m, i, v, 6, v), false)
			wantCheck(t, g, spoilt(m, i, v, 7), false)
			wantCheck(t, g, spoilt(m, i, 7), false)
			for _, out := range []int{-1, -2, 8, 9, api.MaxN, math.MaxInt, math.MinInt} {
				wantCheck(t, g, spoilt(m, i, out), false)
				wantCheck(t, g, spoilt(m, i, v, out), false)
				wantCheck(t, g, spoilt(m, i, out, v), false)
			}
			for k, other := range m.Sets {
				if k != i {
					wantCheck(t, g, spoilt(m, i, other[0]), false)
					wantCheck(t, g, spoilt(m, i, v, other[0]), false)
					wantCheck(t, g, spoilt(m, i, other[len(other)-1], v), false)
				}
			}
		}
	}
}

// TestH2NotWhole: two vertices of a set come to each other by none of their
// own set alone, but by others' vertices, and by vertices of no set.
func TestH2NotWhole(t *testing.T) {
	// 3 and 4 are both beside 1 and 5; without an edge between them, they are
	// a whole set with 5 alone.
	g := with(6, 0, 1, 0, 2, 0, 3, 1, 2, 1, 3, 1, 4, 2, 4, 3, 5, 4, 5)
	wantCheck(t, g, a4([]int{0}, []int{1}, []int{2}, []int{3, 4}), false)
	wantCheck(t, g, a4([]int{0}, []int{1}, []int{2}, []int{3, 5}), false)
	wantCheck(t, g, a4([]int{0}, []int{1}, []int{2}, []int{3, 5, 4}), true)
	wantCheck(t, g, a4([]int{0}, []int{1}, []int{2}, []int{4, 3, 5}), true)
	joined, _ := graph.Add(g, 3, 4)
	wantCheck(t, joined, a4([]int{0}, []int{1}, []int{2}, []int{3, 4}), true)
}

// TestH2NoNeighbours: of all edges that are needed, each in turn lacks. What
// else there is stands for none of them.
func TestH2NoNeighbours(t *testing.T) {
	for _, kind := range []int{K4, K23} {
		p := Pattern(kind)
		m := Model{Kind: kind, Sets: singles(row(0, p.N-1)...)}
		for _, e := range p.E {
			g, _ := graph.Without(p, e.A, e.B)
			wantCheck(t, g, m, false)
			// A vertex beside all is of use only in a set.
			g.N++
			for v := range p.N {
				g, _ = graph.Add(g, v, p.N)
			}
			wantCheck(t, g, m, false)
			wantCheck(t, g, spoilt(m, e.A, e.A, p.N), true)
			wantCheck(t, g, spoilt(m, e.B, p.N, e.B), true)
		}
	}
	// Of a K23, neighbours that are not asked for may lack, and may be.
	full := api.Graph{N: 5, E: pairs(5)}
	for _, e := range pairs(5) {
		g, _ := graph.Without(full, e.A, e.B)
		wantCheck(t, g, a23(singles(0, 1, 2, 3, 4)...), !graph.Has(Pattern(K23), e.A, e.B))
	}
}

// apartBy tells a graph of n vertices that is a model of the pattern: the
// vertices are dealt out, and each set is a path; two that are wanted meet at
// their ends, or in between.
func apartBy(kind, n int) (api.Graph, Model) {
	p := Pattern(kind)
	m := Model{Kind: kind, Sets: make([][]int, p.N)}
	var edges []api.Edge
	for v := range n {
		if v >= p.N {
			edges = append(edges, api.Edge{A: v - p.N, B: v})
		}
		m.Sets[v%p.N] = append(m.Sets[v%p.N], v)
	}
	for i, e := range p.E {
		a, b := m.Sets[e.A], m.Sets[e.B]
		edges = append(edges, api.Edge{A: a[i*(len(a)-1)/5], B: b[(5-i)*(len(b)-1)/5]})
	}
	g, _ := graph.Normal(n, edges)
	return g, m
}

// TestH2ManyVertices: each edge is needed, also in great sets.
func TestH2ManyVertices(t *testing.T) {
	for _, kind := range []int{K4, K23} {
		for _, n := range []int{5, 6, 9, 17, 40, 81, api.MaxN} {
			g, m := apartBy(kind, n)
			wantCheck(t, g, m, true)
			for i := 0; i < len(g.E); i += 1 + n/60 {
				less, e := graph.Without(g, g.E[i].A, g.E[i].B)
				if e != api.OK {
					t.Fatal(e)
				}
				wantCheck(t, less, m, false)
			}
			for i, set := range m.Sets {
				turned := slices.Clone(set)
				slices.Reverse(turned)
				wantCheck(t, g, spoilt(m, i, turned...), true)
				wantCheck(t, g, spoilt(m, i, append(turned, set[0])...), false)
				wantCheck(t, g, spoilt(m, i, append(slices.Clone(set), n)...), false)
				wantCheck(t, g, spoilt(m, i, append(slices.Clone(set), -1)...), false)
				other := m.Sets[(i+1)%len(m.Sets)]
				wantCheck(t, g, spoilt(m, i, append(slices.Clone(set), other[len(other)-1])...), false)
			}
		}
	}
}

func TestH2Greatest(t *testing.T) {
	g := full() // all but the last five pairs of 90 vertices
	wantCheck(t, g, a4(singles(0, 1, 2, 3)...), true)
	wantCheck(t, g, a4(singles(85, 84, 86, 87)...), true)
	wantCheck(t, g, a4(singles(86, 87, 88, 89)...), false)
	wantCheck(t, g, a4(row(0, 29), row(30, 59), row(89, 60), []int{}), false)
	wantCheck(t, g, a4(row(0, 29), row(30, 59), row(85, 60), []int{89}), true)
	wantCheck(t, g, a4(row(0, 29), row(30, 59), row(85, 60), []int{90}), false)
	wantCheck(t, g, a4(row(0, 29), row(30, 59), row(85, 60), []int{88, 89}), false)
	wantCheck(t, g, a23([]int{88}, []int{89}, row(0, 29), row(30, 59), row(60, 85)), true)
	wantCheck(t, g, a23([]int{88}, []int{86}, row(0, 29), row(30, 59), []int{89}), false)
	wantCheck(t, g, a23(row(0, 4), []int{86}, row(5, 9), []int{89, 20}, []int{88, 21}), true)
	wantCheck(t, g, a23(row(0, 4), []int{86}, row(5, 9), []int{89, 20}, []int{999}), false)
	wantCheck(t, api.Graph{N: api.MaxN}, a4(singles(0, 1, 2, 999)...), false)
	last := api.Graph{N: api.MaxN}
	for _, e := range pairs(4) {
		last.E = append(last.E, api.Edge{A: e.A + 996, B: e.B + 996})
	}
	wantCheck(t, last, a4(singles(996, 997, 998, 999)...), true)
	wantCheck(t, last, a4(singles(996, 997, 998, 1000)...), false)
	long := slices.Repeat([]int{3}, 1<<20)
	wantCheck(t, last, a4([]int{996}, long, long, long), false)
	wantCheck(t, last, Model{Kind: K4, Sets: make([][]int, 1<<20)}, false)
}

// TestH2AllSmallGraphs: all ways to deal out the vertices, of all graphs.
func TestH2AllSmallGraphs(t *testing.T) {
	for n := range 5 {
		eachGraph(n, func(g api.Graph) {
			for k := 3; k < 7; k++ {
				eachSharing(n, k, func(sets [][]int) {
					for _, kind := range []int{K4, K23} {
						wantCheck(t, g, Model{Kind: kind, Sets: sets}, slowCheck(g, Model{Kind: kind, Sets: sets}))
					}
				})
			}
		})
	}
	count := 0
	eachGraph(5, func(g api.Graph) {
		count++
		if count%8 == 0 && len(g.E) > 5 {
			eachSharing(5, 4, func(sets [][]int) { wantCheck(t, g, a4(sets...), slowCheck(g, a4(sets...))) })
		}
		eachOrder(singles(row(0, 4)...), func(sets [][]int, places []int) {
			wantCheck(t, g, a23(sets...), slowCheck(g, a23(sets...)))
		})
	})
}

// TestH2AllShortSets: also with numbers that are none, or stand twice, or in
// several sets; all other sets are right.
func TestH2AllShortSets(t *testing.T) {
	for _, g := range []api.Graph{wheel(), {N: 5, E: pairs(5)}, with(6, 0, 1, 0, 2, 0, 4, 1, 2, 1, 3, 2, 5, 3, 4, 3, 5)} {
		for _, m := range []Model{a4([]int{0}, []int{1}, []int{2}, nil), a23([]int{1}, []int{3}, []int{0}, []int{2}, nil), a4(nil, []int{0}, []int{1, 2}, []int{4}), a23(nil, []int{0}, []int{2}, []int{1}, []int{3, 4})} {
			empty := slices.IndexFunc(m.Sets, func(set []int) bool { return set == nil })
			eachRow(4, -1, g.N, func(l []int) {
				one := spoilt(m, empty, l...)
				wantCheck(t, g, one, slowCheck(g, one))
			})
		}
	}
}

func TestH3LiftExample(t *testing.T) {
	m := Model{Kind: 2, Sets: [][]int{{0, 3}, {2}, {}, {5, 1}}}
	wantLift(t, m, 2, 4, Model{Kind: 2, Sets: [][]int{{0, 3}, {2, 4}, {}, {6, 1}}})
	wantLift(t, m, 3, 1, Model{Kind: 2, Sets: [][]int{{0, 4}, {2}, {}, {6, 1, 3}}})
}

// TestH3LiftEitherFirst: which one of both is told first makes no difference.
func TestH3LiftEitherFirst(t *testing.T) {
	m := a4([]int{4, 0, 2}, []int{1}, []int{}, []int{7, 3, 5})
	for a := range 12 {
		for b := range 12 {
			wantLift(t, m, a, b, slowLift(m, a, b))
			wantLift(t, m, b, a, slowLift(m, a, b))
		}
	}
}

// TestH3LiftNothing: both are the same, or one is below 0.
func TestH3LiftNothing(t *testing.T) {
	for _, m := range []Model{{}, a4(), a4(nil, []int{}), a23([]int{0, 1}, []int{-1, 5, 5}, nil, []int{3}), none([]int{2, -3, math.MaxInt, math.MinInt})} {
		for _, v := range []int{0, 1, 2, 3, 5, 9, api.MaxN, math.MaxInt, -1, -3, math.MinInt} {
			wantLift(t, m, v, v, m)
			for _, low := range []int{-1, -2, -3, math.MinInt} {
				wantLift(t, m, v, low, m)
				wantLift(t, m, low, v, m)
			}
		}
	}
}

// TestH3LiftPlaces: the greater one stands at the end, wherever the lesser one
// stood, and just once, however often it did.
func TestH3LiftPlaces(t *testing.T) {
	wantLift(t, a4([]int{1, 5, 3}, []int{5, 1, 3}, []int{5, 3, 1}, []int{1}), 1, 4,
		a4([]int{1, 6, 3, 4}, []int{6, 1, 3, 4}, []int{6, 3, 1, 4}, []int{1, 4}))
	wantLift(t, a4([]int{1, 1}, []int{1, 5, 1}, []int{5, 5}, []int{1, 1, 1, 9}), 4, 1,
		a4([]int{1, 1, 4}, []int{1, 6, 1, 4}, []int{6, 6}, []int{1, 1, 1, 10, 4}))
	// The greater one's number, in a set, is another vertex' one.
	wantLift(t, a4([]int{4}, []int{1, 4}, []int{4, 1}, []int{4, 4}), 1, 4,
		a4([]int{5}, []int{1, 5, 4}, []int{5, 1, 4}, []int{5, 5}))
	wantLift(t, a4([]int{3}, []int{4}, []int{5}, []int{3, 4, 5}), 3, 4,
		a4([]int{3, 4}, []int{5}, []int{6}, []int{3, 5, 6, 4}))
	wantLift(t, a4([]int{0}, []int{1}, []int{0, 1}, []int{1, 0}), 0, 1,
		a4([]int{0, 1}, []int{2}, []int{0, 2, 1}, []int{2, 0, 1}))
}

// TestH3LiftNowhere: the lesser one, or both, stand in no set.
func TestH3LiftNowhere(t *testing.T) {
	m := a23([]int{2, 7}, []int{5}, []int{}, []int{6, 0}, []int{8})
	wantLift(t, m, 3, 4, a23([]int{2, 8}, []int{6}, []int{}, []int{7, 0}, []int{9}))
	wantLift(t, m, 1, 7, a23([]int{2, 8}, []int{5}, []int{}, []int{6, 0}, []int{9}))
	wantLift(t, m, 1, 9, m)
	wantLift(t, m, 9, 10, m)
	wantLift(t, m, math.MaxInt, api.MaxN, m)
	wantLift(t, m, math.MaxInt, 7, a23([]int{2, 7, math.MaxInt}, []int{5}, []int{}, []int{6, 0}, []int{8}))
}

// TestH3Below0: numbers below 0 in the sets stay, and what is none of a
// vertex is counted up likewise.
func TestH3Below0(t *testing.T) {
	m := a4([]int{-1, 0}, []int{-1}, []int{3, -2, 1}, []int{math.MinInt, 5000})
	wantLift(t, m, 0, 1, a4([]int{-1, 0, 1}, []int{-1}, []int{4, -2, 2}, []int{math.MinInt, 5001}))
	wantLift(t, m, 3, 2, a4([]int{-1, 0}, []int{-1}, []int{4, -2, 1}, []int{math.MinInt, 5001}))
	wantDrop(t, m, 0, a4([]int{-1, 1}, []int{-1}, []int{4, -2, 2}, []int{math.MinInt, 5001}))
	wantDrop(t, m, 3, a4([]int{-1, 0}, []int{-1}, []int{4, -2, 1}, []int{math.MinInt, 5001}))
}

func TestH3Drop(t *testing.T) {
	m := Model{Kind: 2, Sets: [][]int{{0, 3}, {2}, {}, {5, 1}}}
	wantDrop(t, m, 2, Model{Kind: 2, Sets: [][]int{{0, 4}, {3}, {}, {6, 1}}})
	wantDrop(t, m, 4, Model{Kind: 2, Sets: [][]int{{0, 3}, {2}, {}, {6, 1}}})
	wantDrop(t, m, 0, Model{Kind: 2, Sets: [][]int{{1, 4}, {3}, {}, {6, 2}}})
	wantDrop(t, m, 5, Model{Kind: 2, Sets: [][]int{{0, 3}, {2}, {}, {6, 1}}})
	wantDrop(t, m, 6, m)
	wantDrop(t, m, -1, m)
	for _, v := range []int{-1, -2, math.MinInt, 6, 7, 9, api.MaxN, api.MaxN + 1, math.MaxInt} {
		wantDrop(t, m, v, m)
		wantDrop(t, Model{}, v, Model{})
		wantDrop(t, a4(nil, []int{}), v, a4([]int{}, nil))
	}
	for _, v := range []int{-1, -2, -7, math.MinInt} {
		low := none([]int{-1, -2, 0, 5}, []int{math.MinInt, -7, math.MaxInt})
		wantDrop(t, low, v, low)
	}
	wantDrop(t, a4([]int{2, 2, 1, 2}), 2, a4([]int{3, 3, 1, 3}))
}

// TestH3Kinds: they are handed on, also such as are no pattern's, and so are
// however many sets there are.
func TestH3Kinds(t *testing.T) {
	for _, kind := range append(noPatterns(), K4, K23) {
		for k := range 7 {
			var sets, lifted, dropped [][]int
			for range k {
				sets, lifted, dropped = append(sets, []int{1, 2}), append(lifted, []int{1, 3, 2}), append(dropped, []int{2, 3})
			}
			m := Model{Kind: kind, Sets: sets}
			wantLift(t, m, 1, 2, Model{Kind: kind, Sets: lifted})
			wantLift(t, m, 1, 1, m)
			wantDrop(t, m, 1, Model{Kind: kind, Sets: dropped})
			wantDrop(t, m, -1, m)
		}
	}
}

// TestH3AllShortSets: all rows of few numbers, and all numbers to change them.
func TestH3AllShortSets(t *testing.T) {
	eachRow(4, -2, 5, func(l []int) {
		m := none(slices.Clone(l), nil, []int{4, 0})
		for a := -2; a < 6; a++ {
			if got, want := Drop(m, a), slowDrop(m, a); !same(got, want) {
				t.Errorf("Drop of %v by %d is %v, not %v", m, a, got, want)
			}
			for b := -2; b < 6; b++ {
				if got, want := Lift(m, a, b), slowLift(m, a, b); !same(got, want) {
					t.Errorf("Lift of %v by %d, %d is %v, not %v", m, a, b, got, want)
				}
			}
		}
	})
}

func TestH3Long(t *testing.T) {
	m := a23(row(0, 199), row(200, 399), row(599, 400), row(600, 799), row(800, 999))
	want := a23(row(0, 199), append(row(200, 399), 500), append(row(600, 501), row(499, 400)...), row(601, 800), row(801, 1000))
	wantLift(t, m, 500, 250, want)
	want.Sets[1] = row(200, 399)
	wantDrop(t, m, 500, want)
}

// ahead goes through the graphs one step ahead of which each contracted or
// deleted one is: it tells what a model of that one is in g.
func ahead(g api.Graph, visit func(less api.Graph, back func(m Model) Model)) {
	for v := range g.N {
		less, _ := sub.Delete(g, v)
		visit(less, func(m Model) Model { return Drop(m, v) })
	}
	for i, e := range g.E {
		if i%2 == 1 {
			e.A, e.B = e.B, e.A
		}
		less, _ := sub.Contract(g, e.A, e.B)
		visit(less, func(m Model) Model { return Lift(m, e.A, e.B) })
	}
}

// TestWhatFollows: a model stays one if an edge is added, and of the graph
// ahead when it is lifted or dropped; what is none becomes none, either.
func TestWhatFollows(t *testing.T) {
	found := map[int]int{}
	follows := func(g api.Graph, kind, sets int) {
		ahead(g, func(less api.Graph, back func(m Model) Model) {
			eachSharing(less.N, sets, func(l [][]int) {
				m := Model{Kind: kind, Sets: l}
				is := Check(less, m)
				if is {
					found[kind]++
				}
				if Check(g, back(m)) != is {
					t.Errorf("in %v: of %v is told %t; back in %v, of %v it is not", less, m, is, g, back(m))
				}
				for _, e := range pairs(less.N) {
					more, code := graph.Add(less, e.A, e.B)
					if is && code == api.OK && !Check(more, m) {
						t.Errorf("in %v with %v: %v is a model no more", less, e, m)
					}
				}
			})
		})
	}
	count := 0
	eachGraph(5, func(g api.Graph) {
		if count++; count%31 == 0 && len(g.E) >= 6 {
			follows(g, K4, 4)
		}
	})
	for _, g := range []api.Graph{
		{N: 6, E: pairs(6)}, with(6, 0, 3, 0, 4, 0, 5, 1, 3, 1, 4, 1, 5, 2, 3, 2, 4, 2, 5), with(6, 0, 1, 0, 2, 0, 4, 1, 3, 1, 5, 2, 3, 2, 5, 3, 4),
	} {
		follows(g, K23, 5)
	}
	if found[K4] < 100 || found[K23] < 100 {
		t.Errorf("too few models: %v", found)
	}
}

// TestBackToTheBeginning: a graph is made less step by step, till as many
// vertices are left as the pattern has; what is a model there, is one all the
// way back, and what is none, isn't.
func TestBackToTheBeginning(t *testing.T) {
	found := map[bool]int{}
	for seed := range 120 {
		kind := K4 + seed%2
		pick := func(n int) int {
			seed = (seed*1103515245 + 12345) & (1<<31 - 1)
			return seed >> 16 % n
		}
		n := 6 + pick(30)
		var edges []api.Edge
		for range n + pick(2*n) {
			edges = append(edges, api.Edge{A: pick(n), B: pick(n)})
		}
		g, _ := graph.Normal(n, edges)
		graphs, backs := []api.Graph{g}, []func(m Model) Model{}
		for g.N > Pattern(kind).N {
			if len(g.E) > 0 && pick(12) > 0 {
				e := g.E[pick(len(g.E))]
				g, _ = sub.Contract(g, e.B, e.A)
				backs = append(backs, func(m Model) Model { return Lift(m, e.B, e.A) })
			} else {
				v := pick(g.N)
				g, _ = sub.Delete(g, v)
				backs = append(backs, func(m Model) Model { return Drop(m, v) })
			}
			graphs = append(graphs, g)
		}
		eachOrder(singles(row(0, g.N-1)...), func(sets [][]int, places []int) {
			m := Model{Kind: kind, Sets: sets}
			is := slowCheck(g, m)
			found[is]++
			for i := range backs {
				wantCheck(t, graphs[len(graphs)-1-i], m, is)
				m = backs[len(backs)-1-i](m)
			}
			wantCheck(t, graphs[0], m, is)
		})
	}
	if min(found[true], found[false]) < 100 {
		t.Errorf("too few of a kind: %v", found)
	}
}

// TestMinorBySteps: there is a model just if one comes to the pattern by
// taking vertices away, taking edges away, and contracting edges.
func TestMinorBySteps(t *testing.T) {
	every := []int{5: 7, 6: 701}
	for _, kind := range []int{K4, K23} {
		p := Pattern(kind)
		known, found := map[string]bool{}, map[bool]int{}
		var comes func(g api.Graph) bool
		comes = func(g api.Graph) bool {
			if g.N < p.N {
				return false
			}
			name := fmt.Sprint(g)
			if is, ok := known[name]; ok {
				return is
			}
			is := false
			eachOrder(singles(row(0, p.N-1)...), func(sets [][]int, places []int) {
				is = is || g.N == p.N && !slices.ContainsFunc(p.E, func(e api.Edge) bool { return !beside(g, places[e.A], places[e.B]) })
			})
			ahead(g, func(less api.Graph, back func(m Model) Model) { is = is || comes(less) })
			known[name] = is
			return is
		}
		for n := range 7 {
			count := 0
			eachGraph(n, func(g api.Graph) {
				// Of the many, a few that are neither without a model by their
				// number of edges alone, nor have one for sure.
				if count++; n > 4 && (len(g.E) < 6 || len(g.E) > 9 || count%every[n] > 0) {
					return
				}
				has := false
				eachSharing(n, p.N, func(sets [][]int) { has = has || Check(g, Model{Kind: kind, Sets: sets}) })
				found[has]++
				if has != comes(g) {
					t.Errorf("%v: a model is told %t, by steps it is %t", g, has, comes(g))
				}
			})
		}
		if min(found[true], found[false]) < 10 {
			t.Errorf("of %d, too few are tried: %v", kind, found)
		}
	}
}

func TestNotRight(t *testing.T) {
	for name, g := range notRight() {
		t.Run(name, func(t *testing.T) {
			for _, m := range []Model{
				{}, a4(), a23(), none(), a4(singles(0, 1, 2, 3)...), a23(singles(0, 1, 2, 3, 4)...), a4(singles(0, 0, 0, 0)...), a4(singles(-1, 0, 1, 2)...),
				a4([]int{0, 1}, []int{2}, nil, []int{}), a4(row(0, 20), row(21, 40), row(41, 60), row(61, 100)), a4(row(0, api.MaxN), row(0, api.MaxN), []int{1}, []int{2}),
				a23([]int{math.MaxInt}, []int{math.MinInt}, []int{0}, []int{1}, []int{2}), a23(row(0, 20), row(21, 40), row(41, 60), row(61, 80), row(81, 90)),
			} {
				wantCheck(t, g, m, false)
			}
		})
	}
}

// TestNotRightOtherwise: with the same edges, but for what isn't right, these
// would be models.
func TestNotRightOtherwise(t *testing.T) {
	for _, kind := range []int{K4, K23} {
		p := Pattern(kind)
		m := Model{Kind: kind, Sets: singles(row(0, p.N-1)...)}
		last := len(p.E) - 1
		wantCheck(t, p, m, true)
		wantCheck(t, api.Graph{N: p.N - 1, E: p.E}, m, false)
		wantCheck(t, api.Graph{N: -p.N, E: p.E}, m, false)
		wantCheck(t, api.Graph{N: api.MaxN, E: p.E}, m, true)
		wantCheck(t, api.Graph{N: api.MaxN + 1, E: p.E}, m, false)
		wantCheck(t, api.Graph{N: math.MaxInt, E: p.E}, m, false)
		for _, e := range []api.Edge{{A: p.N - 1, B: p.N}, p.E[last], p.E[0], {A: p.N - 1, B: p.N - 1}, {A: -1, B: 0}, {A: p.N - 1, B: 0}} {
			wantCheck(t, api.Graph{N: p.N, E: append(slices.Clone(p.E), e)}, m, false)
		}
		turned := slices.Clone(p.E)
		slices.Reverse(turned)
		wantCheck(t, api.Graph{N: p.N, E: turned}, m, false)
		other := slices.Clone(p.E)
		other[last].A, other[last].B = other[last].B, other[last].A
		wantCheck(t, api.Graph{N: p.N, E: other}, m, false)
		wantCheck(t, api.Graph{N: 100, E: append(slices.Clone(p.E), pairs(100)[99:4099]...)}, m, false)
	}
}

// roomy tells the items in a list with room behind them, and that room.
func roomy[T any](l ...T) ([]T, []T) {
	wide := append(make([]T, 0, len(l)+9), l...)
	return wide, wide[len(wide):cap(wide)]
}

// spoil writes over a model's sets, also behind what is told of them.
func spoil(m Model) {
	for _, set := range m.Sets {
		l := set[:cap(set)]
		for i := range l {
			l[i] = -7
		}
	}
	clear(m.Sets[:cap(m.Sets)])
}

// makers tells calls that answer a model of one that is handed in, also such
// as leave it as it was.
func makers() map[string]func(m Model) Model {
	return map[string]func(m Model) Model{
		"Lift":         func(m Model) Model { return Lift(m, 5, 3) },
		"Lift by 0":    func(m Model) Model { return Lift(m, 0, 1) },
		"Lift by none": func(m Model) Model { return Lift(m, 30, 31) },
		"Lift by same": func(m Model) Model { return Lift(m, 2, 2) },
		"Lift by -1":   func(m Model) Model { return Lift(m, 2, -1) },
		"Drop":         func(m Model) Model { return Drop(m, 4) },
		"Drop by 0":    func(m Model) Model { return Drop(m, 0) },
		"Drop by 30":   func(m Model) Model { return Drop(m, 30) },
		"Drop by -1":   func(m Model) Model { return Drop(m, -1) },
	}
}

// TestR1Moves: what was handed in stays as it was, also behind its end, and
// has nothing in common with what is told; neither have two answers, nor two
// sets of one.
func TestR1Moves(t *testing.T) {
	for name, call := range makers() {
		given := Model{Kind: K23, Sets: [][]int{{0, 3}, {2}, {}, {5, 1, 4}, {3, 3}}}
		want := call(kept(given))
		var behind [][]int
		m := Model{Kind: given.Kind}
		for _, set := range given.Sets {
			l, room := roomy(set...)
			m.Sets, behind = append(m.Sets, l), append(behind, room)
		}
		sets, room := roomy(m.Sets...)
		m.Sets = sets
		earlier := call(m)
		if !same(m, given) || slices.ContainsFunc(room, func(l []int) bool { return l != nil }) ||
			slices.ContainsFunc(slices.Concat(behind...), func(v int) bool { return v != 0 }) {
			t.Errorf("%s left %v, behind it %v, and %v", name, m, behind, room)
		}
		spoil(call(m))
		if !same(m, given) || !same(call(m), want) {
			t.Errorf("%s: an answer written over, of %v is left %v, and told %v", name, given, m, call(m))
		}
		for i := range want.Sets {
			got := call(m)
			l := got.Sets[i][:cap(got.Sets[i])]
			for k := range l {
				l[k] = -7
			}
			_ = append(got.Sets[i], -7, -7)
			for k, set := range want.Sets {
				if k != i && !slices.Equal(got.Sets[k], set) {
					t.Errorf("%s: set %d written over, set %d is %v, not %v", name, i, k, got.Sets[k], set)
				}
			}
		}
		spoil(m)
		if !same(earlier, want) {
			t.Errorf("%s: what was handed in written over, it is %v, not %v", name, earlier, want)
		}
	}
}

// TestR1OneSetOften: the same list stands for several sets; those told are
// lists of their own.
func TestR1OneSetOften(t *testing.T) {
	for name, call := range makers() {
		l := []int{3, 0, 5}
		want := call(a4([]int{3, 0, 5}, []int{3, 0, 5}, []int{0, 5}))
		got := call(a4(l, l, l[1:]))
		if !same(got, want) {
			t.Errorf("%s is %v, not %v", name, got, want)
		}
		got.Sets[0][1], got.Sets[2][0] = -7, -8
		if !slices.Equal(got.Sets[1], want.Sets[1]) || got.Sets[0][0] != want.Sets[0][0] || got.Sets[0][1] != -7 {
			t.Errorf("%s: sets share their numbers: %v", name, got)
		}
	}
}

func TestR1Pattern(t *testing.T) {
	for _, kind := range []int{K4, K23} {
		want := Pattern(kind)
		other := Pattern(kind)
		l := other.E[:cap(other.E)]
		for i := range l {
			l[i] = api.Edge{A: -7, B: -7}
		}
		if got := Pattern(kind); got.N != want.N || !slices.Equal(got.E, want.E) || want.E[0] == l[0] {
			t.Errorf("a pattern written over, another one is %v", got)
		}
		wantCheck(t, want, Model{Kind: kind, Sets: singles(row(0, want.N-1)...)}, true)
	}
}

// TestR1NotKept: the same lists with other edges, or other vertices, in them.
func TestR1NotKept(t *testing.T) {
	g := Pattern(K4)
	m := a4(singles(0, 1, 2, 3)...)
	wantCheck(t, g, m, true)
	m.Sets[3][0] = 2
	wantCheck(t, g, m, false)
	m.Sets[3][0] = 3
	wantCheck(t, g, m, true)
	g.N = 5
	g.E[5] = api.Edge{A: 3, B: 4}
	wantCheck(t, g, m, false)
	g.E[5] = api.Edge{A: 2, B: 3}
	wantCheck(t, g, m, true)
	wantCheck(t, api.Graph{N: 5, E: g.E[:5]}, m, false)
	wantCheck(t, g, Model{Kind: K4, Sets: m.Sets[:3]}, false)
}

// TestR2Extremes: numbers that can't be counted up end no call otherwise.
func TestR2Extremes(t *testing.T) {
	ends := []int{math.MinInt, math.MinInt + 1, -1, 0, 1, math.MaxInt - 1, math.MaxInt}
	m := a4(ends, ends, nil, []int{math.MaxInt})
	for _, a := range ends {
		if got := Drop(m, a); len(got.Sets) != 4 || len(got.Sets[0]) != len(ends) || got.Kind != K4 {
			t.Errorf("Drop by %d is %v", a, got)
		}
		for _, b := range ends {
			if got := Lift(m, a, b); len(got.Sets) != 4 || len(got.Sets[2]) != 0 || got.Kind != K4 {
				t.Errorf("Lift by %d, %d is %v", a, b, got)
			}
			wantCheck(t, with(4, 0, 1), a4([]int{a}, []int{b}, ends, ends), false)
		}
	}
}

func TestR4SameAnswers(t *testing.T) {
	g, m := apartBy(K23, 300)
	lifted, dropped := Lift(m, 4, 9), Drop(m, 7)
	for i := range 20 {
		Pattern(i)
		wantCheck(t, wheel(), a4([]int{0}, []int{1}, []int{2}, []int{3, 4}), true)
		wantCheck(t, g, m, true)
		wantLift(t, m, 9, 4, lifted)
		wantDrop(t, m, 7, dropped)
	}
}

func FuzzMinor(f *testing.F) {
	f.Add(5, 1, []byte{0, 1, 0, 2, 0, 3, 1, 2, 1, 4, 2, 3, 3, 4}, []byte("\x00\x80\x01\x80\x02\x80\x03\x04"))
	f.Add(5, 2, []byte{0, 2, 0, 3, 0, 4, 1, 2, 1, 3, 1, 4}, []byte("\x00\x80\x01\x80\x02\x80\x03\x80\x04"))
	f.Add(6, 2, []byte{0, 2, 0, 3, 0, 4, 1, 2, 1, 3, 1, 5, 4, 5}, []byte("\x00\x80\x01\x80\x02\x80\x03\x80\x04\x05"))
	f.Add(-3, 0, []byte{0, 1}, []byte{0x80, 0xFF, 0x81})
	f.Fuzz(func(t *testing.T, n, kind int, ends, numbers []byte) {
		n = max(n%12, 0)
		var edges []api.Edge
		for i := 0; n > 0 && i+1 < len(ends); i += 2 {
			edges = append(edges, api.Edge{A: int(ends[i]) % n, B: int(ends[i+1]) % n})
		}
		g, _ := graph.Normal(n, edges)
		m := Model{Kind: kind, Sets: [][]int{nil}}
		for _, b := range numbers[:min(len(numbers), 40)] {
			if b == 0x80 { // another set begins
				m.Sets = append(m.Sets, nil)
				continue
			}
			last := len(m.Sets) - 1
			m.Sets[last] = append(m.Sets[last], int(int8(b))%50)
		}
		wantCheck(t, g, m, slowCheck(g, m))
		for _, a := range []int{-1, 0, 1, 3, n, len(ends) % 50} {
			wantDrop(t, m, a, slowDrop(m, a))
			wantLift(t, m, a, n, slowLift(m, a, n))
			wantLift(t, m, a, 2, slowLift(m, a, 2))
		}
		ahead(g, func(less api.Graph, back func(m Model) Model) { wantCheck(t, g, back(m), slowCheck(less, m)) })
	})
}
