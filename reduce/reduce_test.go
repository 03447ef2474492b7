package reduce

import (
	"fmt"
	"maps"
	"math"
	"slices"
	"testing"

	"carcanet/api"
	"carcanet/graph"
)

// with tells the graph whose edges have the ends l, one behind the other.
func with(n int, l ...int) api.Graph {
	g := api.Graph{N: n}
	for i := 0; i+1 < len(l); i += 2 {
		g.E = append(g.E, api.Edge{A: l[i], B: l[i+1]})
	}
	return g
}

// row tells the numbers from first to last, also if they fall.
func row(first, last int) []int {
	if first > last {
		out := row(last, first)
		slices.Reverse(out)
		return out
	}
	out := []int{}
	for v := first; v <= last; v++ {
		out = append(out, v)
	}
	return out
}

func pathOf(n int) api.Graph {
	g := api.Graph{N: n}
	for v := 0; v+1 < n; v++ {
		g.E = append(g.E, api.Edge{A: v, B: v + 1})
	}
	return g
}

// ringOf is pathOf, and the first and the last vertex are neighbours.
func ringOf(n int) api.Graph {
	g := pathOf(n)
	g.E = slices.Insert(g.E, 1, api.Edge{A: 0, B: n - 1})
	return g
}

// pairs tells all pairs of n vertices, rising: what a full graph's edges are.
func pairs(n int) []api.Edge {
	var out []api.Edge
	for a := range n {
		for b := a + 1; b < n; b++ {
			out = append(out, api.Edge{A: a, B: b})
		}
	}
	return out
}

// full has as many edges as there may be, among the first 90 vertices.
func full() api.Graph {
	return api.Graph{N: api.MaxN, E: pairs(90)[:api.MaxM]}
}

// eachGraph goes through all graphs of n vertices.
func eachGraph(n int, visit func(g api.Graph)) {
	all := pairs(n)
	for chosen := range 1 << len(all) {
		g := api.Graph{N: n}
		for i, e := range all {
			if chosen>>i&1 == 1 {
				g.E = append(g.E, e)
			}
		}
		visit(g)
	}
}

// brief tells what stands in a message, so that great graphs don't fill it.
func brief(what ...any) string {
	text := fmt.Sprint(what...)
	if len(text) > 400 {
		return text[:400] + " .."
	}
	return text
}

// notRight tells graphs that may not be, in each of the ways. But for that,
// most of them have vertices 0, 1 and 2, and 0 and 1 beside each other.
func notRight() map[string]api.Graph {
	return map[string]api.Graph{
		"fewer than no vertices":     with(-1),
		"fewer, with an edge":        with(-1, 0, 1),
		"far fewer":                  with(math.MinInt, 0, 1),
		"one vertex too many":        with(api.MaxN + 1),
		"too many, with edges":       with(api.MaxN+1, 0, 1, 0, 2, 1, 2),
		"far too many":               with(math.MaxInt, 0, 1, 0, 2, 1, 2),
		"one edge too many":          {N: 101, E: pairs(101)[:api.MaxM+1]},
		"the greater first":          with(3, 1, 0),
		"the greater first, later":   with(3, 0, 1, 2, 1),
		"a vertex beside itself":     with(3, 0, 0, 0, 1),
		"below the first vertex":     with(3, -1, 0, 0, 1),
		"the second one below it":    with(3, 0, -1, 0, 1),
		"both below it":              with(3, -2, -1, 0, 1),
		"behind the last vertex":     with(3, 0, 1, 0, 3),
		"both behind it":             with(3, 0, 1, 3, 4),
		"far behind it":              with(3, 0, 1, 0, math.MaxInt),
		"far below":                  with(3, math.MinInt, 1),
		"an edge without vertices":   with(0, 0, 1),
		"an edge of a single vertex": with(1, 0, 1),
		"the first vertices fall":    with(3, 1, 2, 0, 1),
		"the second ones fall":       with(3, 0, 2, 0, 1, 1, 2),
		"an edge twice":              with(3, 0, 1, 0, 1, 0, 2, 1, 2),
		"twice, turned round":        with(3, 0, 1, 1, 0, 1, 2),
		"twice, others between":      with(3, 0, 1, 0, 2, 0, 1),
		"wrong at the end only":      with(4, 0, 1, 0, 2, 1, 2, 1, 4),
	}
}

// roomy tells the items in a list with room behind them, and that room.
func roomy[T any](l ...T) ([]T, []T) {
	wide := append(make([]T, 0, len(l)+9), l...)
	return wide, wide[len(wide):cap(wide)]
}

// eachOrder goes through all orders of the numbers below n.
func eachOrder(n int, visit func(order []int)) {
	eachRow(n, 0, n-1, func(l []int) {
		if len(l) == n && slices.Equal(slices.Sorted(slices.Values(l)), row(0, n-1)) {
			visit(slices.Clone(l))
		}
	})
}

// eachRow goes through all rows of at most m numbers from low to high.
func eachRow(m, low, high int, visit func(l []int)) {
	var l []int
	var more func()
	more = func() {
		visit(l)
		if len(l) == m {
			return
		}
		for v := low; v <= high; v++ {
			l = append(l, v)
			more()
			l = l[:len(l)-1]
		}
	}
	more()
}

// wheelOf tells a ring with a vertex beside all of its own.
func wheelOf(rim int) api.Graph {
	g := ringOf(rim)
	for v := range rim {
		g, _ = graph.Add(api.Graph{N: rim + 1, E: g.E}, v, rim)
	}
	return g
}

// bipartite tells the graph in which each of the first a vertices is beside
// each of the b others.
func bipartite(a, b int) api.Graph {
	g := api.Graph{N: a + b}
	for v := range a {
		for w := range b {
			g.E = append(g.E, api.Edge{A: v, B: a + w})
		}
	}
	return g
}

// together tells both graphs as one, without an edge between them.
func together(g, h api.Graph) api.Graph {
	out := api.Graph{N: g.N + h.N, E: slices.Clone(g.E)}
	for _, e := range h.E {
		out.E = append(out.E, api.Edge{A: e.A + g.N, B: e.B + g.N})
	}
	return out
}

// normal tells the graph whose edges have the ends l, in any order.
func normal(n int, l ...int) api.Graph {
	g, e := graph.Normal(n, with(n, l...).E)
	if e != api.OK {
		panic(e)
	}
	return g
}

// picker tells numbers below n, always the same ones for a seed.
func picker(seed int) func(n int) int {
	return func(n int) int {
		seed = (seed*1103515245 + 12345) & (1<<31 - 1)
		return seed >> 16 % n
	}
}

// crowded tells g with as many edges more as there may be, as many as stand
// there.
func crowded(g api.Graph) api.Graph {
	more := slices.Clone(g.E)
	for _, e := range pairs(g.N) {
		if len(more) < api.MaxM && !slices.Contains(g.E, e) {
			more = append(more, e)
		}
	}
	out, _ := graph.Normal(g.N, more)
	return out
}

// world is what is left of a graph, as J1 tells it: who is left, and who is
// beside whom.
type world map[int]map[int]bool

func worldOf(g api.Graph) world {
	w := world{}
	for v := range g.N {
		w[v] = map[int]bool{}
	}
	for _, e := range g.E {
		w[e.A][e.B], w[e.B][e.A] = true, true
	}
	return w
}

func (w world) mayGo(v int) bool {
	beside, left := w[v]
	return left && len(beside) <= 2
}

// by tells the step by which v goes.
func (w world) by(v int) Step {
	s := Step{V: v, A: -1, B: -1}
	l := slices.Sorted(maps.Keys(w[v]))
	if len(l) > 0 {
		s.A = l[0]
	}
	if len(l) > 1 {
		s.B = l[1]
		s.Added = !w[l[0]][l[1]]
	}
	return s
}

func (w world) goes(v int) Step {
	s := w.by(v)
	delete(w, v)
	for _, beside := range w {
		delete(beside, v)
	}
	if s.Added {
		w[s.A][s.B], w[s.B][s.A] = true, true
	}
	return s
}

func (w world) log(done []Step) Log {
	l := Log{Steps: done, Left: slices.Sorted(maps.Keys(w))}
	for _, a := range l.Left {
		for _, b := range slices.Sorted(maps.Keys(w[a])) {
			if a < b {
				l.Edges = append(l.Edges, api.Edge{A: a, B: b})
			}
		}
	}
	return l
}

// slowRun is what J1 says of a right graph: behind each step, the least one is
// looked for anew.
func slowRun(g api.Graph) Log {
	w := worldOf(g)
	var done []Step
	for v := 0; v < g.N; v++ {
		if w.mayGo(v) {
			done = append(done, w.goes(v))
			v = -1
		}
	}
	return w.log(done)
}

// slowReplay is what J2 says of a right graph.
func slowReplay(g api.Graph, l []Step) (Log, bool) {
	w := worldOf(g)
	for i, s := range l {
		if !w.mayGo(s.V) || w.by(s.V) != s {
			return w.log(l[:i]), false
		}
		w.goes(s.V)
	}
	return w.log(l), true
}

func same(x, y Log) bool {
	return slices.Equal(x.Steps, y.Steps) && slices.Equal(x.Left, y.Left) && slices.Equal(x.Edges, y.Edges)
}

// kept tells a Log that shares nothing with l.
func kept(l Log) Log {
	return Log{Steps: slices.Clone(l.Steps), Left: slices.Clone(l.Left), Edges: slices.Clone(l.Edges)}
}

// wantRun also asks whether what is handed in stays as it was, and whether
// Narrow and Replay say the same; wantReplay does the first.
func wantRun(t *testing.T, g api.Graph, want Log) {
	t.Helper()
	edges := slices.Clone(g.E)
	got := Run(g)
	if !same(got, want) {
		t.Errorf("Run of %s is %s, not %s", brief(g), brief(got), brief(want))
	}
	if is := Narrow(g); is != (len(want.Left) == 0) {
		t.Errorf("Narrow of %s is %t", brief(g), is)
	}
	if !slices.Equal(g.E, edges) {
		t.Errorf("of %s is left %s", brief(g.N, edges), brief(g))
	}
	wantReplay(t, g, got.Steps, want, true)
}

func wantReplay(t *testing.T, g api.Graph, l []Step, want Log, wantOk bool) {
	t.Helper()
	edges, steps := slices.Clone(g.E), slices.Clone(l)
	got, ok := Replay(g, l)
	if ok != wantOk || !same(got, want) {
		t.Errorf("Replay of %s is %s, not %s", brief(l, " in ", g), brief(ok, got), brief(wantOk, want))
	}
	if !slices.Equal(g.E, edges) || !slices.Equal(l, steps) {
		t.Errorf("of %s is left %s", brief(steps, " in ", g.N, edges), brief(l, " in ", g))
	}
}

// wantSlow: both are as the slow reading says.
func wantSlow(t *testing.T, g api.Graph) {
	t.Helper()
	wantRun(t, g, slowRun(g))
}

func wantSlowReplay(t *testing.T, g api.Graph, l []Step) bool {
	t.Helper()
	want, ok := slowReplay(g, l)
	wantReplay(t, g, l, want, ok)
	return ok
}

// wantNothing: g stays as it is; wantAll: all of it goes by these steps.
func wantNothing(t *testing.T, g api.Graph) {
	t.Helper()
	wantRun(t, g, Log{Left: row(0, g.N-1)[:g.N], Edges: g.E})
}

func wantAll(t *testing.T, g api.Graph, steps ...Step) {
	t.Helper()
	wantRun(t, g, Log{Steps: steps})
}

// alone, beside, joined and joining are the steps by which a vertex goes that
// has none, one, two that are neighbours, and two that are not.
func alone(v int) Step         { return Step{V: v, A: -1, B: -1} }
func beside(v, a int) Step     { return Step{V: v, A: a, B: -1} }
func joined(v, a, b int) Step  { return Step{V: v, A: a, B: b} }
func joining(v, a, b int) Step { return Step{V: v, A: a, B: b, Added: true} }

// named tells the graph whose vertex v is called l[v].
func named(g api.Graph, l []int) api.Graph {
	var edges []api.Edge
	for _, e := range g.E {
		edges = append(edges, api.Edge{A: l[e.A], B: l[e.B]})
	}
	out, code := graph.Normal(g.N, edges)
	if code != api.OK {
		panic(code)
	}
	return out
}

// shuffled tells the numbers below n in an order that hangs on the seed.
func shuffled(n, seed int) []int {
	pick := picker(seed)
	l := row(0, n)[:n]
	for i := range l {
		k := i + pick(n-i)
		l[i], l[k] = l[k], l[i]
	}
	return l
}

func starOf(n, middle int) api.Graph {
	g := api.Graph{N: n}
	for v := range n {
		if v != middle {
			g.E = append(g.E, api.Edge{A: min(v, middle), B: max(v, middle)})
		}
	}
	return g
}

// tailed tells a graph that begins as g does, and in which each further vertex
// is beside the two ahead of it.
func tailed(g api.Graph, n int) api.Graph {
	l := slices.Clone(g.E)
	for v := g.N; v < n; v++ {
		l = append(l, api.Edge{A: v - 2, B: v}, api.Edge{A: v - 1, B: v})
	}
	out, code := graph.Normal(n, l)
	if code != api.OK {
		panic(code)
	}
	return out
}

// grown tells a graph of n vertices, of which each is put beside at most k
// earlier ones that are near each other, or anywhere, and then called anew; now
// and then, an edge lacks.
func grown(seed, n, k int) api.Graph {
	pick := picker(seed)
	var l []api.Edge
	for v := 1; v < n; v++ {
		for range pick(k + 1) {
			if near := v - 1 - pick(min(v, 4)); pick(3) > 0 {
				l = append(l, api.Edge{A: near, B: v})
			} else {
				l = append(l, api.Edge{A: pick(v), B: v})
			}
		}
	}
	g, code := graph.Normal(n, l)
	if code != api.OK {
		panic(code)
	}
	return named(g, shuffled(n, seed+1))
}

// twoTree tells a graph whose vertices but the first two are each put beside
// two earlier ones that are neighbours; so all go.
func twoTree(seed, n int) api.Graph {
	pick := picker(seed)
	l := []api.Edge{{A: 0, B: 1}}
	for v := 2; v < n; v++ {
		e := l[pick(len(l))]
		l = append(l, api.Edge{A: e.A, B: v}, api.Edge{A: e.B, B: v})
	}
	return named(api.Graph{N: n, E: l}, shuffled(n, seed+1))
}

// treeOf tells a tree of n vertices.
func treeOf(seed, n int) api.Graph {
	pick := picker(seed)
	g := api.Graph{N: n}
	for v := 1; v < n; v++ {
		g.E = append(g.E, api.Edge{A: pick(v), B: v})
	}
	return named(g, shuffled(n, seed+1))
}

// grid tells a graph of rows and columns.
func grid(rows, columns int) api.Graph {
	var l []api.Edge
	for v := range rows * columns {
		if v%columns > 0 {
			l = append(l, api.Edge{A: v - 1, B: v})
		}
		if v >= columns {
			l = append(l, api.Edge{A: v - columns, B: v})
		}
	}
	g, _ := graph.Normal(rows*columns, l)
	return g
}

// samples tells graphs of all sorts: of which none goes, some go, all go.
func samples() []api.Graph {
	k4 := api.Graph{N: 4, E: pairs(4)}
	out := []api.Graph{
		{}, with(1), with(2), with(5), with(2, 0, 1), with(3, 0, 2), pathOf(3), pathOf(6), ringOf(3), ringOf(4), ringOf(7),
		k4, {N: 5, E: pairs(5)}, with(4, 0, 1, 0, 2, 0, 3, 1, 2, 1, 3), with(4, 0, 2, 0, 3, 1, 2, 1, 3, 2, 3), bipartite(2, 3), bipartite(3, 3),
		wheelOf(4), wheelOf(6), starOf(7, 0), starOf(7, 3), treeOf(3, 9), tailed(k4, 9), together(k4, ringOf(4)), together(ringOf(4), k4),
		together(pathOf(3), together(wheelOf(5), with(2))), twoTree(5, 9), grid(3, 4), grid(2, 5),
		normal(10, 0, 4, 4, 1, 0, 5, 5, 2, 0, 6, 6, 3, 1, 7, 7, 2, 1, 8, 8, 3, 2, 9, 9, 3),
	}
	for seed := range 8 {
		out = append(out, grown(seed, 9, 3))
	}
	return out
}

func TestJ1Example(t *testing.T) {
	wantAll(t, ringOf(4), joining(0, 1, 3), joined(1, 2, 3), beside(2, 3), alone(3))
}

func TestJ1FewVertices(t *testing.T) {
	wantAll(t, with(0))
	wantAll(t, with(1), alone(0))
	wantAll(t, with(2), alone(0), alone(1))
	wantAll(t, with(2, 0, 1), beside(0, 1), alone(1))
	wantAll(t, with(3), alone(0), alone(1), alone(2))
	wantAll(t, with(3, 0, 1), beside(0, 1), alone(1), alone(2))
	wantAll(t, with(3, 0, 2), beside(0, 2), alone(1), alone(2))
	wantAll(t, with(3, 1, 2), alone(0), beside(1, 2), alone(2))
	wantAll(t, with(3, 0, 1, 0, 2), joining(0, 1, 2), beside(1, 2), alone(2))
	wantAll(t, with(3, 0, 1, 1, 2), beside(0, 1), beside(1, 2), alone(2))
	wantAll(t, with(3, 0, 2, 1, 2), beside(0, 2), beside(1, 2), alone(2))
	wantAll(t, ringOf(3), joined(0, 1, 2), beside(1, 2), alone(2))
}

// TestJ1HowAVertexGoes: one goes, whatever it is called, and the others stay.
func TestJ1HowAVertexGoes(t *testing.T) {
	for v := range 6 {
		others := slices.DeleteFunc(row(0, 5), func(w int) bool { return w == v })
		five := slices.DeleteFunc(pairs(6), func(e api.Edge) bool { return e.A == v || e.B == v })
		at := func(g api.Graph, places ...int) api.Graph {
			t.Helper()
			for _, i := range places {
				more, code := graph.Add(g, v, others[i])
				if code != api.OK {
					t.Fatal(code)
				}
				g = more
			}
			return g
		}
		all := api.Graph{N: 6, E: five}
		after := func(s Step) Log { return Log{Steps: []Step{s}, Left: others, Edges: five} }
		wantRun(t, all, after(alone(v)))
		for i, a := range others {
			wantRun(t, at(all, i), after(beside(v, a)))
			for k := range i {
				b := others[k]
				wantRun(t, at(all, i, k), after(joined(v, b, a)))
				less, _ := graph.Without(all, b, a)
				wantRun(t, at(less, k, i), after(joining(v, b, a)))
				for m := range k {
					wantNothing(t, at(all, i, k, m))
				}
			}
		}
	}
}

func TestJ1Paths(t *testing.T) {
	for _, n := range []int{2, 3, 4, 5, 10, 99, api.MaxN} {
		var steps []Step
		for v := range n - 1 {
			steps = append(steps, beside(v, v+1))
		}
		wantAll(t, pathOf(n), append(steps, alone(n-1))...)
	}
}

func TestJ1Rings(t *testing.T) {
	for _, n := range []int{4, 5, 6, 10, 99, api.MaxN} {
		var steps []Step
		for v := range n - 3 {
			steps = append(steps, joining(v, v+1, n-1))
		}
		wantAll(t, ringOf(n), append(steps, joined(n-3, n-2, n-1), beside(n-2, n-1), alone(n-1))...)
	}
}

// TestJ1Stars: the middle may go only behind nearly all leaves, and then joins
// two that go behind it: so an edge that is added goes again.
func TestJ1Stars(t *testing.T) {
	for _, n := range []int{4, 5, 6, 10, 99, api.MaxN} {
		var last, first []Step
		for v := range n - 1 {
			last = append(last, beside(v, n-1))
		}
		wantAll(t, starOf(n, n-1), append(last, alone(n-1))...)
		for v := 1; v < n-2; v++ {
			first = append(first, beside(v, 0))
		}
		wantAll(t, starOf(n, 0), append(first, joining(0, n-2, n-1), beside(n-2, n-1), alone(n-1))...)
	}
}

func TestJ1Trees(t *testing.T) {
	wantAll(t, with(5, 0, 1, 0, 2, 0, 4, 1, 3), joining(1, 0, 3), beside(2, 0), joining(0, 3, 4), beside(3, 4), alone(4))
	wantAll(t, with(6, 0, 1, 0, 2, 0, 3, 3, 4, 3, 5), beside(1, 0), joining(0, 2, 3), beside(2, 3), joining(3, 4, 5), beside(4, 5), alone(5))
	for _, n := range []int{1, 2, 3, 9, 50, 300} {
		for seed := range 5 {
			wantSlow(t, treeOf(seed, n))
			if got := Run(treeOf(seed, n)); len(got.Steps) != n {
				t.Errorf("of a tree is left %s", brief(got))
			}
		}
	}
}

func TestJ1AllGo(t *testing.T) {
	wantAll(t, with(4, 0, 2, 0, 3, 1, 2, 1, 3, 2, 3), joined(0, 2, 3), joined(1, 2, 3), beside(2, 3), alone(3))
	wantAll(t, with(4, 0, 1, 0, 2, 0, 3, 1, 2, 1, 3), joined(2, 0, 1), joined(0, 1, 3), beside(1, 3), alone(3))
	wantAll(t, bipartite(2, 3), joining(2, 0, 1), joined(3, 0, 1), joined(0, 1, 4), beside(1, 4), alone(4))
	wantAll(t, bipartite(3, 2), joining(0, 3, 4), joined(1, 3, 4), joined(2, 3, 4), beside(3, 4), alone(4))
	wantAll(t, bipartite(2, 2), joining(0, 2, 3), joined(1, 2, 3), beside(2, 3), alone(3))
	wantAll(t, tailed(ringOf(3), 5), joined(0, 1, 2), joined(1, 2, 3), joined(2, 3, 4), beside(3, 4), alone(4))
}

func TestJ1NothingGoes(t *testing.T) {
	for n := 4; n < 12; n++ {
		wantNothing(t, api.Graph{N: n, E: pairs(n)})
	}
	for _, rim := range []int{3, 4, 5, 6, 20, 400, api.MaxN - 1} {
		wantNothing(t, wheelOf(rim))
	}
	for _, x := range [][2]int{{3, 3}, {3, 4}, {4, 3}, {5, 5}, {3, 900}, {900, 3}} {
		wantNothing(t, bipartite(x[0], x[1]))
	}
	wantNothing(t, with(6, 0, 1, 0, 2, 0, 3, 1, 2, 1, 4, 2, 5, 3, 4, 3, 5, 4, 5))
	wantNothing(t, with(8, 0, 1, 0, 2, 0, 4, 1, 3, 1, 5, 2, 3, 2, 6, 3, 7, 4, 5, 4, 6, 5, 7, 6, 7))
	wantNothing(t, together(wheelOf(3), wheelOf(3)))
}

func TestJ1SomeGo(t *testing.T) {
	k4 := pairs(4)
	wantRun(t, tailed(api.Graph{N: 4, E: k4}, 7), Log{Steps: []Step{joined(6, 4, 5), joined(5, 3, 4), joined(4, 2, 3)}, Left: row(0, 3), Edges: k4})
	// In the midst of each edge of K4 a vertex stands, ahead of all others and
	// behind them.
	wantRun(t, normal(10, 0, 4, 4, 1, 0, 5, 5, 2, 0, 6, 6, 3, 1, 7, 7, 2, 1, 8, 8, 3, 2, 9, 9, 3),
		Log{Steps: []Step{joining(4, 0, 1), joining(5, 0, 2), joining(6, 0, 3), joining(7, 1, 2), joining(8, 1, 3), joining(9, 2, 3)}, Left: row(0, 3), Edges: k4})
	wantRun(t, normal(10, 6, 0, 0, 7, 6, 1, 1, 8, 6, 2, 2, 9, 7, 3, 3, 8, 7, 4, 4, 9, 8, 5, 5, 9),
		Log{Steps: []Step{joining(0, 6, 7), joining(1, 6, 8), joining(2, 6, 9), joining(3, 7, 8), joining(4, 7, 9), joining(5, 8, 9)}, Left: row(6, 9), Edges: with(0, 6, 7, 6, 8, 6, 9, 7, 8, 7, 9, 8, 9).E})
	wantRun(t, together(api.Graph{N: 4, E: k4}, ringOf(4)),
		Log{Steps: []Step{joining(4, 5, 7), joined(5, 6, 7), beside(6, 7), alone(7)}, Left: row(0, 3), Edges: k4})
	wantRun(t, together(pathOf(2), together(api.Graph{N: 4, E: k4}, with(1))),
		Log{Steps: []Step{beside(0, 1), alone(1), alone(6)}, Left: row(2, 5), Edges: with(0, 2, 3, 2, 4, 2, 5, 3, 4, 3, 5, 4, 5).E})
}

// TestJ1LessThanBefore: behind each step one may go that is less than the one
// that went, and is taken ahead of the greater ones that waited.
func TestJ1LessThanBefore(t *testing.T) {
	wantAll(t, with(6, 0, 1, 0, 2, 0, 5, 1, 2, 1, 3, 2, 3, 3, 4),
		beside(4, 3), joined(3, 1, 2), joined(1, 0, 2), joining(0, 2, 5), beside(2, 5), alone(5))
}

// TestJ1Falling: only the greatest may go, again and again.
func TestJ1Falling(t *testing.T) {
	for _, n := range []int{5, 6, 20, api.MaxN} {
		var steps []Step
		for v := n - 1; v > 3; v-- {
			steps = append(steps, joined(v, v-2, v-1))
		}
		wantRun(t, tailed(api.Graph{N: 4, E: pairs(4)}, n), Log{Steps: steps, Left: row(0, 3), Edges: pairs(4)})
	}
}

// TestJ1AddedGoesAgain: an edge is added, and goes by a step of one of its
// ends, or stands for the two of a vertex that joins it to another.
func TestJ1AddedGoesAgain(t *testing.T) {
	wantAll(t, ringOf(5), joining(0, 1, 4), joining(1, 2, 4), joined(2, 3, 4), beside(3, 4), alone(4))
	// The edge of 1 and 2 is added by 0; 3, which is beside both, finds it.
	wantAll(t, normal(6, 0, 1, 0, 2, 3, 1, 3, 2, 1, 4, 2, 5), joining(0, 1, 2), joined(3, 1, 2), joining(1, 2, 4), joining(2, 4, 5), beside(4, 5), alone(5))
}

func TestJ1AllSmallGraphs(t *testing.T) {
	for n := range 7 {
		eachGraph(n, func(g api.Graph) { wantSlow(t, g) })
	}
}

func TestJ1Grown(t *testing.T) {
	all, some, none := 0, 0, 0
	for seed := range 1500 {
		g := grown(seed, 4+seed%37, 1+seed%9)
		wantSlow(t, g)
		switch n := len(Run(g).Left); n {
		case 0:
			all++
		case g.N:
			none++
		default:
			some++
		}
	}
	for seed := range 100 {
		wantSlow(t, twoTree(seed, 2+seed))
	}
	if min(all, some, none) < 50 {
		t.Errorf("all go of %d, some of %d, none of %d", all, some, none)
	}
}

// greatest tells graphs of as many vertices as there may be, or of as many
// edges, or nearly.
func greatest() map[string]api.Graph {
	return map[string]api.Graph{
		"no edge":         with(api.MaxN),
		"the last edge":   with(api.MaxN, api.MaxN-2, api.MaxN-1),
		"dense":           full(),
		"a path and more": crowded(pathOf(api.MaxN)),
		"a ring and more": crowded(ringOf(300)),
		"spread":          grown(7, api.MaxN, 5),
		"a tree":          treeOf(7, api.MaxN),
		"two each":        grown(8, api.MaxN, 2),
		"a tree of twos":  twoTree(9, api.MaxN),
		"a grid":          grid(25, 40),
		"a long grid":     grid(2, 500),
		"one for two":     bipartite(2, 998),
		"two for one":     bipartite(998, 2),
		"four for each":   bipartite(4, 996),
		"a tail":          named(tailed(api.Graph{N: 4, E: pairs(4)}, api.MaxN), shuffled(api.MaxN, 5)),
	}
}

func TestJ1Greatest(t *testing.T) {
	for name, g := range greatest() {
		t.Run(name, func(t *testing.T) { wantSlow(t, g) })
	}
	if g := full(); len(g.E) != api.MaxM {
		t.Errorf("there are but %d edges", len(g.E))
	}
}

func TestJ2Example(t *testing.T) {
	g := ringOf(4)
	wantReplay(t, g, []Step{joining(2, 1, 3)}, Log{Steps: []Step{joining(2, 1, 3)}, Left: []int{0, 1, 3}, Edges: with(0, 0, 1, 0, 3, 1, 3).E}, true)
	wantReplay(t, g, []Step{joining(2, 1, 3), joining(0, 1, 3)}, Log{Steps: []Step{joining(2, 1, 3)}, Left: []int{0, 1, 3}, Edges: with(0, 0, 1, 0, 3, 1, 3).E}, false)
	wantReplay(t, g, []Step{joining(2, 1, 3), joined(0, 1, 3)}, Log{Steps: []Step{joining(2, 1, 3), joined(0, 1, 3)}, Left: []int{1, 3}, Edges: with(0, 1, 3).E}, true)
}

// TestJ2NoSteps: all of the graph is left.
func TestJ2NoSteps(t *testing.T) {
	for _, g := range append(samples(), full(), pathOf(api.MaxN)) {
		whole := Log{Left: row(0, g.N)[:g.N], Edges: g.E}
		wantReplay(t, g, nil, whole, true)
		wantReplay(t, g, []Step{}, whole, true)
	}
}

// TestJ2Prefixes: the steps that Run tells, as many of them as one likes; it
// may also go on from any of them, but none is left out.
func TestJ2Prefixes(t *testing.T) {
	for _, g := range samples() {
		steps := Run(g).Steps
		for k := range len(steps) + 1 {
			if !wantSlowReplay(t, g, steps[:k]) {
				t.Errorf("of %v, %v can't be done", g, steps[:k])
			}
			wantSlowReplay(t, g, steps[k:])
			if k > 0 {
				wantSlowReplay(t, g, slices.Delete(slices.Clone(steps), k-1, k))
				wantSlowReplay(t, g, slices.Insert(slices.Clone(steps), k, steps[k-1]))
			}
		}
	}
}

// eachOrderOfGoing goes through all ways in which vertices may go, behind each
// step.
func eachOrderOfGoing(g api.Graph, visit func(l []Step, left world)) {
	var l []Step
	var more func()
	more = func() {
		left := worldOf(g)
		for _, s := range l {
			left.goes(s.V)
		}
		visit(slices.Clone(l), left)
		for v := range g.N {
			if left.mayGo(v) {
				l = append(l, left.by(v))
				more()
				l = l[:len(l)-1]
			}
		}
	}
	more()
}

// someGraphs goes through all graphs of n vertices but for those between each
// two that are so many apart.
func someGraphs(n, every int, visit func(g api.Graph)) {
	count := 0
	eachGraph(n, func(g api.Graph) {
		if count++; count%every == 0 {
			visit(g)
		}
	})
}

// TestJ2AnyOrder: whoever may go, goes.
func TestJ2AnyOrder(t *testing.T) {
	all := func(g api.Graph) {
		eachOrderOfGoing(g, func(l []Step, left world) { wantReplay(t, g, l, left.log(l), true) })
	}
	for n := range 5 {
		eachGraph(n, all)
	}
	someGraphs(5, 37, all)
	for _, g := range greatest() {
		for seed := range 2 {
			if !wantSlowReplay(t, g, atRandom(g, seed)) {
				t.Errorf("in %s, what may go doesn't", brief(g))
			}
		}
	}
}

// atRandom tells steps by which vertices go, as long as some may, in an order
// that hangs on the seed.
func atRandom(g api.Graph, seed int) []Step {
	w := worldOf(g)
	pick := picker(seed)
	var l []Step
	waiting := shuffled(g.N, seed)
	for len(waiting) > 0 {
		at := slices.IndexFunc(waiting, w.mayGo)
		if at < 0 {
			break
		}
		for range pick(3) {
			if next := slices.IndexFunc(waiting[at+1:], w.mayGo); next >= 0 {
				at += 1 + next
			}
		}
		l = append(l, w.goes(waiting[at]))
		waiting = slices.Delete(waiting, at, at+1)
	}
	return l
}

// TestJ2AllForms: behind each part of some orders, a step of any form, and
// then the one that might be done instead.
func TestJ2AllForms(t *testing.T) {
	done, not := 0, 0
	all := func(g api.Graph) {
		eachOrderOfGoing(g, func(l []Step, left world) {
			if !slices.IsSortedFunc(l, func(x, y Step) int { return x.V - y.V }) {
				return
			}
			end := left.log(l)
			eachRow(3, -2, g.N, func(numbers []int) {
				if len(numbers) < 3 {
					return
				}
				for _, added := range []bool{false, true} {
					s := Step{V: numbers[0], A: numbers[1], B: numbers[2], Added: added}
					steps := append(slices.Clone(l), s)
					if left.mayGo(s.V) && left.by(s.V) == s {
						done++
						if got, ok := Replay(g, steps); !ok || !slices.Equal(got.Steps, steps) || slices.Contains(got.Left, s.V) {
							t.Errorf("Replay of %v in %v is %v", steps, g, got)
						}
						continue
					}
					not++
					for v := range left {
						if left.mayGo(v) {
							steps = append(steps, left.by(v))
						}
					}
					if got, ok := Replay(g, steps); ok || !same(got, end) {
						t.Errorf("Replay of %v in %v is %v", steps, g, got)
					}
				}
			})
		})
	}
	for n := range 4 {
		eachGraph(n, all)
	}
	someGraphs(4, 3, all)
	someGraphs(5, 101, all)
	if done < 500 || not < 50000 {
		t.Errorf("but %d are done, and %d not", done, not)
	}
}

// wantStop: of the steps, the first ones are done, and no more.
func wantStop(t *testing.T, g api.Graph, first []Step, s ...Step) {
	t.Helper()
	want, ok := slowReplay(g, first)
	if !ok {
		t.Fatalf("in %s, the first ones can't be done: %s", brief(g), brief(first))
	}
	wantReplay(t, g, slices.Concat(first, s), want, false)
}

// noVertices are numbers that are none of n vertices.
func noVertices(n int) []int {
	return []int{-1, -2, n, n + 1, api.MaxN, math.MaxInt, math.MinInt}
}

func TestJ2NoVertex(t *testing.T) {
	for _, g := range samples() {
		steps := Run(g).Steps
		for k := range len(steps) + 1 {
			for _, v := range noVertices(g.N) {
				for _, s := range []Step{alone(v), beside(v, 0), joined(v, 0, 1), joining(v, 0, 1), joined(v, v, v), {V: v}} {
					wantStop(t, g, steps[:k], s)
					wantStop(t, g, steps[:k], append([]Step{s}, steps[k:]...)...)
				}
			}
		}
	}
}

// TestJ2Gone: who is gone doesn't go again, by whatever step.
func TestJ2Gone(t *testing.T) {
	for _, g := range samples() {
		steps := Run(g).Steps
		for k := range steps {
			for _, s := range steps[:k+1] {
				wantStop(t, g, steps[:k+1], s)
				wantStop(t, g, steps[:k+1], alone(s.V))
				wantStop(t, g, steps[:k+1], append([]Step{alone(s.V)}, steps[k+1:]...)...)
				for _, a := range []int{-1, 0, s.A, s.B} {
					wantStop(t, g, steps[:k+1], beside(s.V, a))
					wantStop(t, g, steps[:k+1], Step{V: s.V, A: a, B: s.B, Added: !s.Added})
				}
			}
		}
	}
}

// TestJ2TooManyNeighbours: who has three and more stays, whichever of them the
// step tells.
func TestJ2TooManyNeighbours(t *testing.T) {
	for _, g := range append(samples(), wheelOf(9), api.Graph{N: 6, E: pairs(6)}) {
		steps := Run(g).Steps
		for k := range len(steps) + 1 {
			left, _ := slowReplay(g, steps[:k])
			w := worldOf(api.Graph{N: g.N, E: left.Edges})
			for _, v := range left.Left {
				if len(w[v]) < 3 {
					continue
				}
				l := append(slices.Sorted(maps.Keys(w[v])), -1)
				for _, a := range l {
					for _, b := range l {
						wantStop(t, g, steps[:k], joined(v, a, b))
						wantStop(t, g, steps[:k], joining(v, a, b))
					}
				}
				wantStop(t, g, steps[:k], Step{V: v})
			}
		}
	}
}

// wrongOnes tells steps of the same vertex that differ from s in a field, or
// in the places of A and B.
func wrongOnes(n int, s Step) []Step {
	out := []Step{{V: s.V, A: s.A, B: s.B, Added: !s.Added}}
	if s.A != s.B {
		out = append(out, Step{V: s.V, A: s.B, B: s.A, Added: s.Added})
	}
	for _, v := range append(noVertices(n), row(0, n)...) {
		if v != s.A {
			out = append(out, Step{V: s.V, A: v, B: s.B, Added: s.Added})
		}
		if v != s.B {
			out = append(out, Step{V: s.V, A: s.A, B: v, Added: s.Added})
		}
		if v != s.A || v != s.B {
			out = append(out, Step{V: s.V, A: v, B: v, Added: s.Added})
		}
	}
	return out
}

// TestJ2WrongStep: what is behind it isn't done either, though it might be.
func TestJ2WrongStep(t *testing.T) {
	for _, g := range samples() {
		steps := Run(g).Steps
		for k, s := range steps {
			for _, wrong := range wrongOnes(g.N, s) {
				wantStop(t, g, steps[:k], wrong)
				wantStop(t, g, steps[:k], append([]Step{wrong}, steps[k:]...)...)
				wantStop(t, g, steps[:k], append([]Step{wrong}, steps[k+1:]...)...)
			}
		}
	}
}

// TestJ2StepTooMany: behind all that Run tells, nobody goes.
func TestJ2StepTooMany(t *testing.T) {
	for _, g := range append(samples(), pathOf(api.MaxN), tailed(wheelOf(5), api.MaxN)) {
		end := Run(g)
		for _, v := range append([]int{0, g.N / 2, g.N - 1}, noVertices(g.N)...) {
			for _, s := range []Step{alone(v), beside(v, v+1), beside(v, v-1), joined(v, v+1, v+2), joining(v, v-1, v+1)} {
				wantReplay(t, g, append(slices.Clone(end.Steps), s), end, false)
			}
		}
	}
}

// TestJ2ZeroStep: a step of which nothing was said is one of the vertex 0
// beside itself, which no one goes by.
func TestJ2ZeroStep(t *testing.T) {
	for _, g := range samples() {
		steps := Run(g).Steps
		for k := range len(steps) + 1 {
			wantStop(t, g, steps[:k], Step{})
			wantStop(t, g, steps[:k], make([]Step, 99)...)
		}
	}
}

// TestJ2Held: an order that might be done but for one that isn't least yet has
// too many neighbours.
func TestJ2Held(t *testing.T) {
	g := with(6, 0, 1, 0, 2, 0, 5, 1, 2, 1, 3, 2, 3, 3, 4)
	wantReplay(t, g, []Step{beside(5, 0), joined(0, 1, 2), beside(4, 3), joined(3, 1, 2), beside(2, 1), alone(1)},
		Log{Steps: []Step{beside(5, 0), joined(0, 1, 2), beside(4, 3), joined(3, 1, 2), beside(2, 1), alone(1)}}, true)
	wantStop(t, g, nil, joined(0, 1, 2), beside(5, 0))
	wantStop(t, g, nil, joined(3, 1, 2))
	wantStop(t, g, []Step{beside(5, 0)}, joined(3, 1, 2), joined(0, 1, 2))
	wantStop(t, g, []Step{beside(5, 0)}, joined(1, 2, 3))
}

func TestJ2Long(t *testing.T) {
	g := pathOf(9)
	steps := Run(g).Steps
	wantStop(t, g, steps, slices.Repeat(steps, 1<<17)...)
	wantStop(t, g, nil, make([]Step, 1<<20)...)
	wantStop(t, with(0), nil, make([]Step, 1<<20)...)
	for _, g := range greatest() {
		steps := Run(g).Steps
		for _, k := range []int{0, len(steps) / 3, len(steps) - 1} {
			if k >= 0 && k < len(steps) {
				wrong := steps[k]
				wrong.Added = !wrong.Added
				wantStop(t, g, steps[:k], append([]Step{wrong}, steps[k:]...)...)
			}
		}
	}
}

func TestJ3(t *testing.T) {
	narrow := func(g api.Graph, want bool) {
		t.Helper()
		if got := Narrow(g); got != want {
			t.Errorf("Narrow of %s is %t", brief(g), got)
		}
	}
	for _, n := range []int{0, 1, 2, 3, 4, 5, 50, api.MaxN} {
		narrow(with(n), true)
		narrow(pathOf(n), true)
		narrow(treeOf(n, n), true)
		if n > 1 {
			narrow(twoTree(n, n), true)
			narrow(starOf(n, n/2), true)
		}
		if n > 2 {
			narrow(ringOf(n), true)
			narrow(tailed(ringOf(3), n), true)
		}
		if n > 3 {
			narrow(tailed(wheelOf(3), n), false)
			narrow(wheelOf(n-1), false)
			narrow(grid(2, n/2), true)
			narrow(bipartite(2, n-2), true)
			narrow(bipartite(n-2, 2), true)
			narrow(named(tailed(wheelOf(3), n), shuffled(n, n)), false)
		}
	}
	for _, e := range pairs(4) {
		less, _ := graph.Without(wheelOf(3), e.A, e.B)
		narrow(less, true)
	}
	narrow(together(wheelOf(3), with(3)), false)
	narrow(together(with(3), wheelOf(3)), false)
	narrow(together(ringOf(3), ringOf(3)), true)
	narrow(together(pathOf(900), wheelOf(3)), false)
	narrow(grid(3, 3), false)
	narrow(grid(25, 40), false)
	narrow(bipartite(3, 3), false)
	narrow(full(), false)
	narrow(crowded(with(api.MaxN)), false)
}

// hasK4 tells whether a graph of a few vertices has a minor K4: whether it is
// one, or becomes one that has it when a vertex is deleted, or two neighbours
// are contracted. Whom a vertex is beside stands in the bits of its number.
func hasK4(near []uint8, known map[string]bool) bool {
	if len(near) < 4 {
		return false
	}
	if len(near) == 4 {
		return slices.Equal(near, []uint8{0b1110, 0b1101, 0b1011, 0b0111})
	}
	key := string(near)
	if is, told := known[key]; told {
		return is
	}
	is := false
	for a := range near {
		is = is || hasK4(deleted(near, a), known)
		for b := range a {
			if near[a]>>b&1 == 1 {
				is = is || hasK4(contracted(near, a, b), known)
			}
		}
	}
	known[key] = is
	return is
}

func deleted(near []uint8, v int) []uint8 {
	var out []uint8
	for w, l := range near {
		if w != v {
			out = append(out, l&(1<<v-1)|l>>(v+1)<<v)
		}
	}
	return out
}

func contracted(near []uint8, a, b int) []uint8 {
	out := slices.Clone(near)
	out[b] = (out[a] | out[b]) &^ (1 << b)
	for w := range out {
		if w != b && out[w]>>a&1 == 1 {
			out[w] |= 1 << b
		}
	}
	return deleted(out, a)
}

// TestNarrowAndMinors: a graph is narrow just if it has no minor K4.
func TestNarrowAndMinors(t *testing.T) {
	known := map[string]bool{}
	count := map[bool]int{}
	for n := range 7 {
		eachGraph(n, func(g api.Graph) {
			near := make([]uint8, n)
			for _, e := range g.E {
				near[e.A] |= 1 << e.B
				near[e.B] |= 1 << e.A
			}
			has := hasK4(near, known)
			count[has]++
			if Narrow(g) == has {
				t.Errorf("%v: a minor K4 is %t, and narrow is, too", g, has)
			}
		})
	}
	if min(count[true], count[false]) < 5000 {
		t.Errorf("with and without a minor K4 are but %v", count)
	}
}

// around tells who of those that are left is beside a, or comes to it by a way
// along vertices that are gone.
func around(g api.Graph, left map[int]bool, a int) map[int]bool {
	w := worldOf(g)
	seen, found := map[int]bool{a: true}, map[int]bool{}
	waiting := []int{a}
	for len(waiting) > 0 {
		v := waiting[0]
		waiting = waiting[1:]
		for next := range w[v] {
			switch {
			case seen[next]:
			case left[next]:
				found[next] = true
			default:
				seen[next] = true
				waiting = append(waiting, next)
			}
		}
	}
	return found
}

// follows: what is left behind l is a right graph's, two are neighbours in it
// just if a way led from the one to the other along those that went, and in
// whatever order they go, the same is left at the end, with three neighbours
// and more each.
func follows(t *testing.T, g api.Graph, l []Step) {
	t.Helper()
	got, ok := Replay(g, l)
	rest := api.Graph{N: g.N, E: got.Edges}
	if !ok || !graph.Right(rest) || len(got.Left)+len(l) != g.N || !slices.IsSorted(got.Left) {
		t.Errorf("Replay of %s is %s", brief(l, " in ", g), brief(got))
	}
	left := map[int]bool{}
	for _, v := range got.Left {
		left[v] = true
	}
	joined := worldOf(rest)
	for _, v := range got.Left {
		if want := around(g, left, v); !maps.Equal(joined[v], want) {
			t.Errorf("behind %s, %d is beside %v, not %v", brief(l, " in ", g), v, joined[v], want)
		}
	}
	end := Run(g)
	if on := Run(rest); len(on.Left) != len(end.Left) || !slices.Equal(on.Edges, end.Edges) {
		t.Errorf("behind %s goes %s, and of all goes %s", brief(l, " in ", g), brief(on), brief(end))
	}
	for v, degree := range graph.Degrees(api.Graph{N: g.N, E: end.Edges}) {
		if slices.Contains(end.Left, v) != (degree > 2) {
			t.Errorf("behind Run of %s, %d has %d neighbours", brief(g), v, degree)
		}
	}
	for _, v := range end.Left {
		if slices.ContainsFunc(end.Steps, func(s Step) bool { return s.V == v }) {
			t.Errorf("%d goes, and is left: %s", v, brief(end))
		}
	}
}

func TestWhatFollows(t *testing.T) {
	for n := range 5 {
		eachGraph(n, func(g api.Graph) {
			eachOrderOfGoing(g, func(l []Step, _ world) { follows(t, g, l) })
		})
	}
	for seed := range 150 {
		g := grown(seed, 5+seed%30, 2+seed%3)
		l := atRandom(g, seed+1)
		for k := 0; k < len(l); k += 1 + seed%4 {
			follows(t, g, l[:k])
		}
		follows(t, g, l)
		if end, _ := Replay(g, l); !slices.Equal(end.Left, Run(g).Left) || !slices.Equal(end.Edges, Run(g).Edges) {
			t.Errorf("behind %v in %v is left %v", l, g, end)
		}
	}
}

// TestRestAgain: what is left behind Run stays so; and if all are called
// anew, as many go, and those that are left are called anew.
func TestRestAgain(t *testing.T) {
	for seed := range 200 {
		g := grown(seed, 5+seed%30, 2+seed%4)
		end := Run(g)
		names := shuffled(g.N, seed+2)
		again := Run(named(g, names))
		var left []int
		for _, v := range end.Left {
			left = append(left, names[v])
		}
		slices.Sort(left)
		edges := named(api.Graph{N: g.N, E: end.Edges}, names).E
		if !slices.Equal(again.Left, left) || !slices.Equal(again.Edges, edges) {
			t.Errorf("of %v, called anew %v, is left %v, not %v", g, names, again, left)
		}
	}
}

func TestNotRight(t *testing.T) {
	for name, g := range notRight() {
		t.Run(name, func(t *testing.T) {
			edges := slices.Clone(g.E)
			if got := Run(g); got.Steps != nil || got.Left != nil || got.Edges != nil {
				t.Errorf("Run is %s", brief(got))
			}
			for _, l := range [][]Step{nil, {}, {alone(0)}, {beside(0, 1)}, {beside(0, 1), alone(1)}, {joined(0, 1, 2)}, {joining(0, 1, 2)}, {alone(-1)}, {alone(g.N - 1)}, {{}}} {
				steps := slices.Clone(l)
				if got, ok := Replay(g, l); ok || got.Steps != nil || got.Left != nil || got.Edges != nil {
					t.Errorf("Replay of %v is %s", l, brief(ok, got))
				}
				if !slices.Equal(l, steps) {
					t.Errorf("of %v is left %v", steps, l)
				}
			}
			if Narrow(g) {
				t.Error("it is narrow")
			}
			if !slices.Equal(g.E, edges) {
				t.Errorf("of %s is left %s", brief(edges), brief(g.E))
			}
		})
	}
}

// TestNotRightOtherwise: but for what isn't right, these might go.
func TestNotRightOtherwise(t *testing.T) {
	neither := func(n int, edges []api.Edge, l []Step) {
		t.Helper()
		g := api.Graph{N: n, E: edges}
		got, ok := Replay(g, l)
		_, none := Replay(g, nil)
		if ok || none || !same(got, Log{}) || !same(Run(g), Log{}) || Narrow(g) {
			t.Errorf("of %s something is told", brief(g))
		}
	}
	for _, g := range samples() {
		steps := Run(g).Steps
		neither(-g.N-1, g.E, steps)
		neither(api.MaxN+1, g.E, steps)
		neither(math.MaxInt, g.E, steps)
		neither(math.MinInt, g.E, steps)
		for i, e := range g.E {
			turned, twice, itself := slices.Clone(g.E), slices.Insert(slices.Clone(g.E), i, e), slices.Clone(g.E)
			turned[i] = api.Edge{A: e.B, B: e.A}
			itself[i].B = e.A
			neither(g.N, turned, steps)
			neither(g.N, twice, steps)
			neither(g.N, itself, steps)
			neither(e.B, g.E, steps)
			if i > 0 {
				falling := slices.Clone(g.E)
				falling[i-1], falling[i] = falling[i], falling[i-1]
				neither(g.N, falling, steps)
			}
		}
	}
	neither(api.MaxN, pairs(100)[:api.MaxM+1], nil)
}

// spoil writes over all lists of l, also behind what is told of them.
func spoil(l Log) {
	for i := range l.Steps[:cap(l.Steps)] {
		l.Steps[:cap(l.Steps)][i] = Step{V: -7, A: -7, B: -7, Added: true}
	}
	for i := range l.Left[:cap(l.Left)] {
		l.Left[:cap(l.Left)][i] = -7
	}
	for i := range l.Edges[:cap(l.Edges)] {
		l.Edges[:cap(l.Edges)][i] = api.Edge{A: -7, B: -7}
	}
}

// TestR1Answers: what is told may be written over, and so may what was handed
// in: neither becomes another one by it.
func TestR1Answers(t *testing.T) {
	for _, g := range append(samples(), tailed(wheelOf(20), 300)) {
		edges, behind := roomy(g.E...)
		given := slices.Clone(edges)
		g.E = edges
		want := slowRun(g)
		wanted := kept(want)
		for k := range len(want.Steps) + 1 {
			if k > 3 && k < len(want.Steps)-3 {
				continue
			}
			part, _ := slowReplay(g, want.Steps[:k])
			part = kept(part)
			for _, further := range []Step{{}, alone(-1)} {
				steps, behindSteps := roomy(append(slices.Clone(want.Steps[:k]), further, further)...)
				before := slices.Clone(steps)
				first, _ := Replay(g, steps)
				run := Run(g)
				earlier, _ := Replay(g, steps)
				spoil(first)
				spoil(run)
				_ = append(first.Steps, Step{}, Step{})
				all, _ := Replay(g, steps[:k])
				spoil(all)
				_ = append(all.Steps, Step{V: 5})
				if !slices.Equal(steps, before) || slices.ContainsFunc(behindSteps, func(s Step) bool { return s != Step{} }) {
					t.Errorf("an answer written over, of %v is left %v", before, steps)
				}
				if !slices.Equal(g.E, given) || slices.ContainsFunc(behind, func(e api.Edge) bool { return e != api.Edge{} }) {
					t.Errorf("an answer written over, of %v is left %v", given, g.E)
				}
				if !same(earlier, part) {
					t.Errorf("an answer written over, another is %v, not %v", earlier, part)
				}
				wantReplay(t, g, steps, part, false)
				wantReplay(t, g, steps[:k], part, true)
				clear(steps[:cap(steps)])
				if !same(earlier, part) {
					t.Errorf("the steps written over, an answer is %v, not %v", earlier, part)
				}
			}
		}
		earlier := Run(g)
		again, _ := Replay(g, earlier.Steps)
		clear(g.E[:cap(g.E)])
		if !same(earlier, wanted) || !same(again, wanted) {
			t.Errorf("the graph written over, an answer is %v, not %v", earlier, wanted)
		}
		spoil(earlier)
		if !same(again, wanted) {
			t.Errorf("what Run told written over, what Replay told of it is %v", again)
		}
	}
}

// TestR1NotKept: the same lists with other numbers in them.
func TestR1NotKept(t *testing.T) {
	g, l := ringOf(4), []Step{joining(2, 1, 3)}
	wantSlow(t, g)
	wantSlowReplay(t, g, l)
	g.E[1] = api.Edge{A: 0, B: 2}
	g.E[2] = api.Edge{A: 1, B: 3}
	wantSlow(t, g)
	wantSlowReplay(t, g, l)
	l[0] = joining(2, 0, 3)
	wantSlowReplay(t, g, l)
	wantSlow(t, api.Graph{N: 4, E: g.E[:3]})
	wantSlow(t, api.Graph{N: 4, E: g.E[1:]})
}

// TestR2Extremes: numbers that can't be counted up end no call otherwise.
func TestR2Extremes(t *testing.T) {
	ends := []int{math.MinInt, math.MinInt + 1, -2, -1, 0, 1, 3, 4, math.MaxInt - 1, math.MaxInt}
	for _, v := range ends {
		for _, a := range ends {
			for _, b := range ends {
				s := Step{V: v, A: a, B: b, Added: a > 0}
				for _, g := range []api.Graph{{}, with(1), pathOf(4), ringOf(4), wheelOf(3)} {
					wantSlowReplay(t, g, []Step{s, s})
				}
				if got, ok := Replay(with(v, a, b), []Step{s}); (ok || !same(got, Log{})) && !graph.Right(with(v, a, b)) {
					t.Errorf("of no right graph %d, %d, %d something is told: %v", v, a, b, got)
				}
			}
		}
	}
}

func TestR4SameAnswers(t *testing.T) {
	g := grown(3, 300, 3)
	want := slowRun(g)
	for seed := range 20 {
		Run(grown(seed, 40, 3))
		Replay(g, atRandom(grown(seed, 40, 2), seed))
		wantRun(t, g, want)
	}
}

func FuzzReduce(f *testing.F) {
	f.Add(4, []byte{0, 1, 1, 2, 2, 3, 3, 0}, 2, []byte{2, 1, 3, 1, 0, 1, 3, 0})
	f.Add(6, []byte{0, 1, 0, 2, 0, 5, 1, 2, 1, 3, 2, 3, 3, 4}, 0, []byte{5, 0, 255, 0, 0, 1, 2, 0})
	f.Add(9, []byte{0, 1, 0, 2, 0, 3, 1, 2, 1, 3, 2, 3, 4, 5, 5, 6, 6, 4}, 9, []byte{0, 0, 0, 0})
	f.Add(-3, []byte{0, 1}, -1, []byte{0x80, 0xFF, 0x81})
	f.Fuzz(func(t *testing.T, n int, ends []byte, done int, numbers []byte) {
		n = max(n%40, 0)
		var edges []api.Edge
		for i := 0; n > 0 && i+1 < min(len(ends), 300); i += 2 {
			edges = append(edges, api.Edge{A: int(ends[i]) % n, B: int(ends[i+1]) % n})
		}
		g, _ := graph.Normal(n, edges)
		wantSlow(t, g)
		l := atRandom(g, len(ends))
		l = l[:min(max(done, 0), len(l))]
		for i := 0; i+3 < min(len(numbers), 40); i += 4 {
			s := Step{V: int(int8(numbers[i])), A: int(int8(numbers[i+1])), B: int(int8(numbers[i+2])), Added: numbers[i+3]%2 == 1}
			l = append(l, s)
		}
		wantSlowReplay(t, g, l)
	})
}
