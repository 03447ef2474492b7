package topo

import (
	"fmt"
	"math"
	"slices"
	"strings"
	"testing"

	"carcanet/api"
	"carcanet/graph"
	"carcanet/minor"
	"carcanet/walk"
)

// with tells the graph whose edges have the ends l, one behind the other.
func with(n int, l ...int) api.Graph {
	g := api.Graph{N: n}
	for i := 0; i+1 < len(l); i += 2 {
		g.E = append(g.E, api.Edge{A: l[i], B: l[i+1]})
	}
	return g
}

// row tells the numbers from first to last, also if they fall.
func row(first, last int) []int {
	if first > last {
		out := row(last, first)
		slices.Reverse(out)
		return out
	}
	out := []int{}
	for v := first; v <= last; v++ {
		out = append(out, v)
	}
	return out
}

func pathOf(n int) api.Graph {
	g := api.Graph{N: n}
	for v := 0; v+1 < n; v++ {
		g.E = append(g.E, api.Edge{A: v, B: v + 1})
	}
	return g
}

// ringOf is pathOf, and the first and the last vertex are neighbours.
func ringOf(n int) api.Graph {
	g := pathOf(n)
	g.E = slices.Insert(g.E, 1, api.Edge{A: 0, B: n - 1})
	return g
}

// pairs tells all pairs of n vertices, rising: what a full graph's edges are.
func pairs(n int) []api.Edge {
	var out []api.Edge
	for a := range n {
		for b := a + 1; b < n; b++ {
			out = append(out, api.Edge{A: a, B: b})
		}
	}
	return out
}

// full has as many edges as there may be, among the first 90 vertices.
func full() api.Graph {
	return api.Graph{N: api.MaxN, E: pairs(90)[:api.MaxM]}
}

// eachGraph goes through all graphs of n vertices.
func eachGraph(n int, visit func(g api.Graph)) {
	all := pairs(n)
	for chosen := range 1 << len(all) {
		g := api.Graph{N: n}
		for i, e := range all {
			if chosen>>i&1 == 1 {
				g.E = append(g.E, e)
			}
		}
		visit(g)
	}
}

// eachRow goes through all rows of at most m numbers from low to high.
func eachRow(m, low, high int, visit func(l []int)) {
	var l []int
	var more func()
	more = func() {
		visit(l)
		if len(l) == m {
			return
		}
		for v := low; v <= high; v++ {
			l = append(l, v)
			more()
			l = l[:len(l)-1]
		}
	}
	more()
}

// brief tells what stands in a message, so that great graphs don't fill it.
func brief(what ...any) string {
	text := fmt.Sprint(what...)
	if len(text) > 400 {
		return text[:400] + " .."
	}
	return text
}

// notRight tells graphs that may not be, in each of the ways. But for that,
// most of them have vertices 0, 1 and 2, and 0 and 1 beside each other.
func notRight() map[string]api.Graph {
	return map[string]api.Graph{
		"fewer than no vertices":     with(-1),
		"fewer, with an edge":        with(-1, 0, 1),
		"far fewer":                  with(math.MinInt, 0, 1),
		"one vertex too many":        with(api.MaxN + 1),
		"too many, with edges":       with(api.MaxN+1, 0, 1, 0, 2, 1, 2),
		"far too many":               with(math.MaxInt, 0, 1, 0, 2, 1, 2),
		"one edge too many":          {N: 101, E: pairs(101)[:api.MaxM+1]},
		"the greater first":          with(3, 1, 0),
		"the greater first, later":   with(3, 0, 1, 2, 1),
		"a vertex beside itself":     with(3, 0, 0, 0, 1),
		"below the first vertex":     with(3, -1, 0, 0, 1),
		"the second one below it":    with(3, 0, -1, 0, 1),
		"both below it":              with(3, -2, -1, 0, 1),
		"behind the last vertex":     with(3, 0, 1, 0, 3),
		"both behind it":             with(3, 0, 1, 3, 4),
		"far behind it":              with(3, 0, 1, 0, math.MaxInt),
		"far below":                  with(3, math.MinInt, 1),
		"an edge without vertices":   with(0, 0, 1),
		"an edge of a single vertex": with(1, 0, 1),
		"the first vertices fall":    with(3, 1, 2, 0, 1),
		"the second ones fall":       with(3, 0, 2, 0, 1, 1, 2),
		"an edge twice":              with(3, 0, 1, 0, 1, 0, 2, 1, 2),
		"twice, turned round":        with(3, 0, 1, 1, 0, 1, 2),
		"twice, others between":      with(3, 0, 1, 0, 2, 0, 1),
		"wrong at the end only":      with(4, 0, 1, 0, 2, 1, 2, 1, 4),
	}
}

// roomy tells the items in a list with room behind them, and that room.
func roomy[T any](l ...T) ([]T, []T) {
	wide := append(make([]T, 0, len(l)+9), l...)
	return wide, wide[len(wide):cap(wide)]
}

// eachRising goes through all rising rows of m of the numbers below n.
func eachRising(m, n int, visit func(l []int)) {
	var l []int
	var more func(from int)
	more = func(from int) {
		if len(l) == m {
			visit(l)
			return
		}
		for v := from; v < n; v++ {
			l = append(l, v)
			more(v + 1)
			l = l[:len(l)-1]
		}
	}
	more(0)
}

// eachOrder goes through all orders of the numbers below n.
func eachOrder(n int, visit func(order []int)) {
	eachRow(n, 0, n-1, func(l []int) {
		if len(l) == n && slices.Equal(slices.Sorted(slices.Values(l)), row(0, n-1)) {
			visit(slices.Clone(l))
		}
	})
}

// slowShape is what I1 says of a kind: how many tops there are, between which
// of them the paths lead, and how many vertices each of them has at least.
func slowShape(kind int) (tops int, pairs [][2]int, least int) {
	switch kind {
	case 1:
		for i := range 4 {
			for k := i + 1; k < 4; k++ {
				pairs = append(pairs, [2]int{i, k})
			}
		}
		return 4, pairs, 1
	case 2:
		return 2, [][2]int{{0, 1}, {0, 1}, {0, 1}}, 3
	}
	return 0, nil, 0
}

func beside(g api.Graph, a, b int) bool {
	return slices.Contains(g.E, api.Edge{A: min(a, b), B: max(a, b)})
}

// slowPath is what 5 says of a path of a right graph.
func slowPath(g api.Graph, p []int) bool {
	for i, v := range p {
		if v < 0 || v >= g.N || slices.Contains(p[:i], v) || i > 0 && !beside(g, p[i-1], v) {
			return false
		}
	}
	return len(p) > 0
}

// slowApart is what 5 says of it: each place of an inner number is held
// against all others.
func slowApart(l [][]int) bool {
	for i, p := range l {
		for k := 1; k < len(p)-1; k++ {
			for j, q := range l {
				for m, v := range q {
					if (i != j || k != m) && v == p[k] {
						return false
					}
				}
			}
		}
	}
	return true
}

// slowCheck is what I1 says of a right graph, word by word.
func slowCheck(g api.Graph, s Sub) bool {
	n, pairs, least := slowShape(s.Kind)
	if n == 0 || len(s.Tops) != n || len(s.Paths) != len(pairs) || !slowApart(s.Paths) {
		return false
	}
	for i, v := range s.Tops {
		if v < 0 || v >= g.N || slices.Contains(s.Tops[:i], v) {
			return false
		}
	}
	for i, pair := range pairs {
		p := s.Paths[i]
		if len(p) < least || !slowPath(g, p) || p[0] != s.Tops[pair[0]] || p[len(p)-1] != s.Tops[pair[1]] {
			return false
		}
	}
	return true
}

// eachPath goes through all paths from a to b, given who is beside whom.
func eachPath(near [][]int, a, b int, visit func(p []int)) {
	p := []int{a}
	var on func()
	on = func() {
		last := p[len(p)-1]
		if last == b {
			visit(slices.Clone(p))
			return
		}
		for _, v := range near[last] {
			if !slices.Contains(p, v) {
				p = append(p, v)
				on()
				p = p[:len(p)-1]
			}
		}
	}
	on()
}

// eachSub goes through all subdivisions in g, in the order that Read asks for.
func eachSub(g api.Graph, kind int, visit func(s Sub)) {
	n, pairs, least := slowShape(kind)
	near := make([][]int, g.N)
	for v := range near {
		near[v] = slices.DeleteFunc(row(0, g.N-1), func(w int) bool { return !beside(g, v, w) })
	}
	eachRising(n, g.N, func(tops []int) {
		s := Sub{Kind: kind, Tops: tops}
		var more func()
		more = func() {
			done := len(s.Paths)
			if done == len(pairs) {
				visit(kept(s))
				return
			}
			eachPath(near, tops[pairs[done][0]], tops[pairs[done][1]], func(p []int) {
				if len(p) < least || kind == 2 && done > 0 && p[1] <= s.Paths[done-1][1] {
					return
				}
				s.Paths = append(s.Paths[:done:done], p)
				if slowApart(s.Paths) {
					more()
				}
				s.Paths = s.Paths[:done]
			})
		}
		more()
	})
}

// slowRead tells all that there are of what I2 tells of a right graph.
func slowRead(g api.Graph) []Sub {
	var found []Sub
	for _, kind := range []int{1, 2} {
		eachSub(g, kind, func(s Sub) {
			joined := map[api.Edge]bool{}
			for _, p := range s.Paths {
				for i := range len(p) - 1 {
					joined[api.Edge{A: p[i], B: p[i+1]}] = true
				}
			}
			for _, e := range g.E {
				if !joined[e] && !joined[api.Edge{A: e.B, B: e.A}] {
					return
				}
			}
			found = append(found, s)
		})
	}
	return found
}

// slowEdges is what I3 says of any Sub: each edge is put in where it belongs.
func slowEdges(s Sub) []api.Edge {
	var l []api.Edge
	for _, p := range s.Paths {
		for i := range p {
			if i == 0 {
				continue
			}
			e := api.Edge{A: p[i-1], B: p[i]}
			if e.A > e.B {
				e.A, e.B = e.B, e.A
			}
			at := 0
			for at < len(l) && (l[at].A < e.A || l[at].A == e.A && l[at].B < e.B) {
				at++
			}
			if at == len(l) || l[at] != e {
				l = slices.Insert(l, at, e)
			}
		}
	}
	return l
}

// slowModel is what I3 says of any Sub.
func slowModel(s Sub) minor.Model {
	within := func(places ...int) []int {
		var l []int
		for _, i := range places {
			for k, v := range s.Paths[i] {
				if k > 0 && k < len(s.Paths[i])-1 {
					l = append(l, v)
				}
			}
		}
		return l
	}
	if slices.ContainsFunc(s.Paths, func(p []int) bool { return len(p) < 2 }) {
		return minor.Model{}
	}
	if s.Kind == 1 && len(s.Tops) == 4 && len(s.Paths) == 6 {
		return minor.Model{Kind: 1, Sets: [][]int{
			append([]int{s.Tops[0]}, within(0, 1, 2)...), append([]int{s.Tops[1]}, within(3, 4)...), append([]int{s.Tops[2]}, within(5)...), {s.Tops[3]},
		}}
	}
	if s.Kind == 2 && len(s.Tops) == 2 && len(s.Paths) == 3 {
		return minor.Model{Kind: 2, Sets: [][]int{{s.Tops[0]}, {s.Tops[1]}, within(0), within(1), within(2)}}
	}
	return minor.Model{}
}

func sameLists(x, y [][]int) bool { return slices.EqualFunc(x, y, slices.Equal[[]int]) }

func same(x, y Sub) bool {
	return x.Kind == y.Kind && slices.Equal(x.Tops, y.Tops) && sameLists(x.Paths, y.Paths)
}

// kept tells a Sub that shares nothing with s.
func kept(s Sub) Sub {
	out := Sub{Kind: s.Kind, Tops: slices.Clone(s.Tops)}
	for _, p := range s.Paths {
		out.Paths = append(out.Paths, append([]int{}, p...))
	}
	return out
}

// wantCheck also asks whether what is handed in stays as it was; so do those
// that follow.
func wantCheck(t *testing.T, g api.Graph, s Sub, want bool) {
	t.Helper()
	edges, before := slices.Clone(g.E), kept(s)
	if got := Check(g, s); got != want {
		t.Errorf("Check of %s is %t", brief(s, " in ", g), got)
	}
	if !slices.Equal(g.E, edges) || !same(s, before) {
		t.Errorf("Check of %s left %s", brief(before, " in ", g.N, edges), brief(s, " in ", g))
	}
}

func wantRead(t *testing.T, g api.Graph, want Sub, wantOk bool) {
	t.Helper()
	edges := slices.Clone(g.E)
	got, ok := Read(g)
	if ok != wantOk || !same(got, want) || !ok && (got.Tops != nil || got.Paths != nil) {
		t.Errorf("Read of %s is %s, not %s", brief(g), brief(ok, got), brief(wantOk, want))
	}
	if !slices.Equal(g.E, edges) {
		t.Errorf("Read of %s left %s", brief(g.N, edges), brief(g))
	}
	if ok {
		wantCheck(t, g, got, true)
		if l := Edges(got); !slices.Equal(l, g.E) {
			t.Errorf("what is read of %s has the edges %s", brief(g), brief(l))
		}
	}
}

// wantNone: there is none in g.
func wantNone(t *testing.T, g api.Graph) {
	t.Helper()
	wantRead(t, g, Sub{}, false)
}

func wantParts(t *testing.T, s Sub) {
	t.Helper()
	before := kept(s)
	if got, want := Edges(s), slowEdges(s); !slices.Equal(got, want) {
		t.Errorf("Edges of %s is %s, not %s", brief(s), brief(got), brief(want))
	}
	if got, want := Model(s), slowModel(s); got.Kind != want.Kind || !sameLists(got.Sets, want.Sets) {
		t.Errorf("Model of %s is %s, not %s", brief(s), brief(got), brief(want))
	}
	if !same(s, before) {
		t.Errorf("of %s is left %s", brief(before), brief(s))
	}
}

// a4 and a23 are subdivisions, whatever is true of them.
func a4(tops []int, paths ...[]int) Sub  { return Sub{Kind: minor.K4, Tops: tops, Paths: paths} }
func a23(tops []int, paths ...[]int) Sub { return Sub{Kind: minor.K23, Tops: tops, Paths: paths} }

// noPatterns are kinds that are none.
func noPatterns() []int {
	return []int{0, 3, 4, 5, 23, 24, -1, -2, 257, 258, 1 << 32, 1<<32 + 1, 1<<32 + 2, math.MaxInt, math.MinInt, math.MinInt + 1, math.MinInt + 2}
}

// itself is what vertices are called that are called by their places.
func itself(v int) int { return v }

// made tells the subdivision whose paths have so many inner vertices each, and
// the graph of n vertices that has its edges and no others. The tops come
// first, then what is in the paths, one behind the other; name tells what each
// is called.
func made(kind, n int, inner []int, name func(int) int) (api.Graph, Sub) {
	tops, pairs, _ := slowShape(kind)
	s := Sub{Kind: kind}
	for v := range tops {
		s.Tops = append(s.Tops, name(v))
	}
	next := tops
	for i, pair := range pairs {
		p := []int{s.Tops[pair[0]]}
		for range inner[i] {
			p = append(p, name(next))
			next++
		}
		s.Paths = append(s.Paths, append(p, s.Tops[pair[1]]))
	}
	return graphOf(n, s), s
}

// graphOf tells the graph of n vertices whose edges are those of s.
func graphOf(n int, s Sub) api.Graph {
	g, e := graph.Normal(n, slowEdges(s))
	if e != api.OK {
		panic(e)
	}
	return g
}

// inOrder tells s in the order that I2 asks for.
func inOrder(s Sub) Sub {
	_, pairs, _ := slowShape(s.Kind)
	out := Sub{Kind: s.Kind, Tops: slices.Sorted(slices.Values(s.Tops))}
	for i, pair := range pairs {
		a, b := out.Tops[pair[0]], out.Tops[pair[1]]
		for k, p := range s.Paths {
			p = slices.Clone(p)
			if p[0] > p[len(p)-1] {
				slices.Reverse(p)
			}
			if p[0] == a && p[len(p)-1] == b && (s.Kind == 1 || i == k) {
				out.Paths = append(out.Paths, p)
			}
		}
	}
	if s.Kind == 2 {
		slices.SortFunc(out.Paths, func(p, q []int) int { return p[1] - q[1] })
	}
	return out
}

// picker tells numbers below n, always the same ones for a seed.
func picker(seed int) func(n int) int {
	return func(n int) int {
		seed = (seed*1103515245 + 12345) & (1<<31 - 1)
		return seed >> 16 % n
	}
}

// grown tells a graph of some vertices that is a subdivision, and that one.
func grown(seed int) (api.Graph, Sub) {
	pick := picker(seed)
	kind := 1 + pick(2)
	tops, pairs, least := slowShape(kind)
	n := tops
	var inner []int
	for range pairs {
		inner = append(inner, max(least-2, pick(4)))
		n += inner[len(inner)-1]
	}
	n += pick(4) // these have no edges
	names := row(0, n-1)
	for i := range names {
		k := i + pick(n-i)
		names[i], names[k] = names[k], names[i]
	}
	return made(kind, n, inner, func(v int) int { return names[v] })
}

// fan is the document's example.
func fan() api.Graph {
	return with(5, 0, 1, 0, 2, 0, 3, 1, 2, 1, 4, 2, 3, 3, 4)
}

func fanSub() Sub {
	return a4(row(0, 3), []int{0, 1}, []int{0, 2}, []int{0, 3}, []int{1, 2}, []int{1, 4, 3}, []int{2, 3})
}

func TestI1Example(t *testing.T) {
	wantCheck(t, fan(), fanSub(), true)
	for i := range 6 {
		s := fanSub()
		s.Paths[i] = s.Paths[i][:1]
		wantCheck(t, fan(), s, false)
	}
	for _, e := range fan().E {
		g, _ := graph.Without(fan(), e.A, e.B)
		wantCheck(t, g, fanSub(), false)
	}
}

func TestI1Patterns(t *testing.T) {
	four := a4(row(0, 3), []int{0, 1}, []int{0, 2}, []int{0, 3}, []int{1, 2}, []int{1, 3}, []int{2, 3})
	two := a23([]int{0, 1}, []int{0, 2, 1}, []int{0, 3, 1}, []int{0, 4, 1})
	wantCheck(t, minor.Pattern(minor.K4), four, true)
	wantCheck(t, minor.Pattern(minor.K23), two, true)
	wantCheck(t, minor.Pattern(minor.K4), two, false)
	wantCheck(t, minor.Pattern(minor.K23), four, false)
	wantCheck(t, api.Graph{N: 5, E: pairs(5)}, four, true)
	wantCheck(t, api.Graph{N: 5, E: pairs(5)}, two, true)
}

func TestI1Kinds(t *testing.T) {
	g := api.Graph{N: 9, E: pairs(9)}
	_, four := made(1, 9, []int{0, 1, 0, 2, 0, 1}, itself)
	_, two := made(2, 9, []int{1, 2, 3}, itself)
	for _, kind := range append(noPatterns(), minor.K4, minor.K23) {
		for _, s := range []Sub{four, two, {}, {Tops: []int{}, Paths: [][]int{}}, {Tops: []int{0}, Paths: [][]int{{0}}}} {
			is := kind == s.Kind && kind > 0
			s.Kind = kind
			wantCheck(t, g, s, is)
			wantCheck(t, with(0), s, false)
		}
	}
}

// TestI1TopsAndPaths: however many there are of each, but as many as there
// have to be, s is none.
func TestI1TopsAndPaths(t *testing.T) {
	g := api.Graph{N: 12, E: pairs(12)}
	for kind := 1; kind <= 2; kind++ {
		_, s := made(kind, 12, []int{1, 2, 1, 1, 0, 2}, itself)
		for k := range 9 {
			other := kept(s)
			other.Tops = slices.Concat(s.Tops, []int{11, 10, 9, 8, 7, 6, 5, 4})[:k]
			wantCheck(t, g, other, k == len(s.Tops))
			other = kept(s)
			other.Paths = slices.Concat(s.Paths, s.Paths, s.Paths)[:k]
			wantCheck(t, g, other, k == len(s.Paths))
			other.Paths = slices.Concat(s.Paths, make([][]int, 9))[:k]
			wantCheck(t, g, other, k == len(s.Paths))
			other.Paths = make([][]int, k)
			wantCheck(t, g, other, false)
			other.Paths = nil
			wantCheck(t, g, other, false)
		}
		for i := range s.Paths {
			other := kept(s)
			other.Paths = slices.Delete(other.Paths, i, i+1)
			wantCheck(t, g, other, false)
			other = kept(s)
			other.Paths = slices.Insert(other.Paths, i, []int{0, 11, 1})
			wantCheck(t, g, other, false)
		}
		for i := range s.Tops {
			other := kept(s)
			other.Tops = slices.Delete(other.Tops, i, i+1)
			wantCheck(t, g, other, false)
		}
		long := kept(s)
		long.Tops = slices.Repeat(s.Tops, 1<<14)
		wantCheck(t, g, long, false)
		long = kept(s)
		long.Paths = slices.Repeat(s.Paths, 1<<14)
		wantCheck(t, g, long, false)
	}
}

// stranger is a vertex that is beside all others of a crowd and stands in no
// path; loner, one that has no edge.
const (
	stranger = 11
	loner    = 12
)

// crowd tells a graph in which all vertices but one are beside each other, and
// a subdivision in it.
func crowd(kind int) (api.Graph, Sub) {
	_, s := made(kind, 13, []int{1, 2, 1, 1, 0, 2}, itself)
	return api.Graph{N: 13, E: pairs(12)}, s
}

// noVertices are numbers that are none of a crowd.
func noVertices() []int {
	return []int{-1, -2, 13, 14, api.MaxN, math.MaxInt, math.MinInt}
}

// TestI1WrongTops: in a top's place stands another vertex, or no vertex, and
// the paths go with it, or don't.
func TestI1WrongTops(t *testing.T) {
	for kind := 1; kind <= 2; kind++ {
		g, s := crowd(kind)
		wantCheck(t, g, s, true)
		_, pairs, _ := slowShape(kind)
		for i, top := range s.Tops {
			for _, v := range append(row(0, 12), noVertices()...) {
				other := kept(s)
				other.Tops[i] = v
				wantCheck(t, g, other, v == top)
				for k, pair := range pairs {
					p := other.Paths[k]
					if pair[0] == i {
						p[0] = v
					}
					if pair[1] == i {
						p[len(p)-1] = v
					}
				}
				free := !slices.Contains(slices.Concat(s.Paths...), v) && slices.Contains(row(0, stranger), v)
				wantCheck(t, g, other, v == top || free)
				if slowCheck(g, other) != (v == top || free) {
					t.Errorf("the slow reading says otherwise of %v", other)
				}
			}
		}
		for i := range s.Tops {
			for k := range i { // two that are alike, and two that changed places
				other := kept(s)
				other.Tops[i] = other.Tops[k]
				wantCheck(t, g, other, false)
				other = kept(s)
				other.Tops[i], other.Tops[k] = other.Tops[k], other.Tops[i]
				wantCheck(t, g, other, false)
			}
		}
	}
}

// TestI1TopsAlike: the paths between alike tops are as good as they can be.
func TestI1TopsAlike(t *testing.T) {
	g, _ := crowd(1)
	for _, last := range [][]int{{2}, {2, 2}, {2, 5, 2}, {2, 5, 6, 2}, {}} {
		wantCheck(t, g, a4([]int{0, 1, 2, 2}, []int{0, 1}, []int{0, 2}, []int{0, 2}, []int{1, 2}, []int{1, 2}, last), false)
		wantCheck(t, g, a4([]int{0, 1, 2, 2}, []int{0, 1}, []int{0, 2}, []int{0, 7, 2}, []int{1, 2}, []int{1, 8, 2}, last), false)
		wantCheck(t, g, a4([]int{2, 2, 0, 1}, last, []int{2, 0}, []int{2, 1}, []int{2, 3, 0}, []int{2, 4, 1}, []int{0, 1}), false)
		wantCheck(t, g, a4([]int{2, 2, 2, 2}, last, last, last, last, last, last), false)
		wantCheck(t, g, a23([]int{2, 2}, last, last, last), false)
		wantCheck(t, g, a23([]int{2, 2}, last, []int{2, 3, 2}, []int{2, 4, 8, 2}), false)
	}
	wantCheck(t, g, a23([]int{2, 2}, []int{2, 3, 2}, []int{2, 4, 2}, []int{2, 5, 2}), false)
	wantCheck(t, g, a23([]int{2, 2}, []int{2, 3, 6, 2}, []int{2, 4, 7, 2}, []int{2, 5, 8, 2}), false)
}

// spoiltPath tells s with another path at a place.
func spoiltPath(s Sub, place int, p ...int) Sub {
	out := kept(s)
	out.Paths[place] = p
	return out
}

// TestI1WrongPaths: each path in turn is one that may not be.
func TestI1WrongPaths(t *testing.T) {
	for kind := 1; kind <= 2; kind++ {
		g, s := crowd(kind)
		for i, p := range s.Paths {
			wrong := func(l ...int) { t.Helper(); wantCheck(t, g, spoiltPath(s, i, l...), false) }
			first, last, n := p[0], p[len(p)-1], len(p)
			wrong()
			wrong([]int{}...)
			wrong(first)
			wrong(last)
			wrong(first, first)
			wrong(first, last, first, last)
			wrong(p[1:]...)
			wrong(p[:n-1]...)
			wrong(append(slices.Clone(p), stranger)...)
			wrong(append(slices.Clone(p), last)...)
			wrong(append([]int{stranger}, p...)...)
			wrong(append([]int{first}, p...)...)
			turned := slices.Clone(p)
			slices.Reverse(turned)
			wrong(turned...)
			for at := 1; at < n; at++ {
				within := func(v int) []int { return slices.Insert(slices.Clone(p), at, v) }
				wantCheck(t, g, spoiltPath(s, i, within(stranger)...), true)
				wrong(within(loner)...)
				for _, v := range append(noVertices(), p...) {
					wrong(within(v)...)
				}
				for _, v := range slices.Concat(s.Tops, slices.Concat(s.Paths...)) {
					wrong(within(v)...)
				}
			}
		}
	}
}

// TestI1NoNeighbours: of the edges of each path, each in turn lacks; any other
// one may.
func TestI1NoNeighbours(t *testing.T) {
	for kind := 1; kind <= 2; kind++ {
		g, s := crowd(kind)
		needed := slowEdges(s)
		for _, e := range g.E {
			less, _ := graph.Without(g, e.A, e.B)
			wantCheck(t, less, s, !slices.Contains(needed, e))
		}
		wantCheck(t, api.Graph{N: g.N, E: needed}, s, true)
	}
}

// TestI1Places: the paths stand in other orders, and so do the tops, with the
// paths that belong to them.
func TestI1Places(t *testing.T) {
	for kind := 1; kind <= 2; kind++ {
		g, s := crowd(kind)
		eachOrder(len(s.Paths), func(order []int) {
			other := kept(s)
			for i, k := range order {
				other.Paths[i] = slices.Clone(s.Paths[k])
			}
			wantCheck(t, g, other, kind == 2 || slices.IsSorted(order))
		})
		_, pairs, _ := slowShape(kind)
		eachOrder(len(s.Tops), func(order []int) {
			other := Sub{Kind: kind}
			for _, k := range order {
				other.Tops = append(other.Tops, s.Tops[k])
			}
			wantCheck(t, g, Sub{Kind: kind, Tops: other.Tops, Paths: s.Paths}, slices.IsSorted(order))
			for i, pair := range pairs {
				a, b := order[pair[0]], order[pair[1]]
				k := i
				if kind == 1 {
					k = slices.Index(pairs, [2]int{min(a, b), max(a, b)})
				}
				p := slices.Clone(s.Paths[k])
				if a > b {
					slices.Reverse(p)
				}
				other.Paths = append(other.Paths, p)
			}
			wantCheck(t, g, other, true)
		})
	}
}

// TestI1ShortOfK23: each path has at least three vertices, though those of two
// are paths, too, and apart from all others.
func TestI1ShortOfK23(t *testing.T) {
	g, _ := crowd(2)
	eachRow(3, 0, 3, func(inner []int) {
		if len(inner) == 3 {
			_, s := made(2, 13, inner, itself)
			wantCheck(t, g, s, slices.Min(inner) > 0)
		}
	})
	eachRow(6, 0, 1, func(inner []int) {
		if len(inner) == 6 {
			_, s := made(1, 13, inner, itself)
			wantCheck(t, g, s, true)
		}
	})
}

// TestI1AllShortPaths: all short rows in each path's place, in graphs with few
// ways about.
func TestI1AllShortPaths(t *testing.T) {
	for _, x := range []struct {
		g api.Graph
		s Sub
	}{
		{fan(), fanSub()},
		{with(5, 0, 1, 0, 2, 0, 3, 1, 2, 1, 3, 1, 4, 2, 3, 3, 4), fanSub()},
		{with(5, 0, 1, 0, 2, 0, 3, 0, 4, 1, 2, 1, 3, 1, 4, 3, 4), a23([]int{1, 0}, []int{1, 2, 0}, []int{1, 3, 0}, []int{1, 4, 0})},
		{with(6, 0, 2, 0, 3, 0, 4, 1, 2, 1, 3, 1, 4, 1, 5, 4, 5), a23([]int{0, 1}, []int{0, 2, 1}, []int{0, 3, 1}, []int{0, 4, 5, 1})},
	} {
		found := 0
		for i := range x.s.Paths {
			eachRow(4, -1, x.g.N, func(l []int) {
				s := spoiltPath(x.s, i, l...)
				want := slowCheck(x.g, s)
				wantCheck(t, x.g, s, want)
				if want {
					found++
				}
			})
		}
		if found < len(x.s.Paths) {
			t.Errorf("in %v, there are but %d", x.g, found)
		}
	}
}

// TestI1AllSmallGraphs: all rows of tops, with paths of one edge, or by a
// vertex that is no top.
func TestI1AllSmallGraphs(t *testing.T) {
	count, found := 0, map[int]int{}
	try := func(g api.Graph, s Sub) {
		want := slowCheck(g, s)
		wantCheck(t, g, s, want)
		if want {
			found[s.Kind]++
		}
	}
	eachGraph(5, func(g api.Graph) {
		if count++; count%5 > 0 || len(g.E) < 5 {
			return
		}
		for kind := 1; kind <= 2; kind++ {
			n, pairs, _ := slowShape(kind)
			eachRow(n, 0, 4, func(tops []int) {
				if len(tops) < n || kind == 1 && len(slices.Compact(slices.Sorted(slices.Values(tops)))) < 3 {
					return
				}
				for by := range 8 {
					s := Sub{Kind: kind, Tops: tops}
					for i, pair := range pairs {
						p := []int{tops[pair[0]], tops[pair[1]]}
						if i == by || kind == 2 {
							p = slices.Insert(p, 1, (i*(1+by/5)+by)%5)
						}
						s.Paths = append(s.Paths, p)
					}
					try(g, s)
				}
			})
		}
		eachOrder(5, func(l []int) {
			try(g, a23(l[:2], []int{l[0], l[2], l[1]}, []int{l[0], l[3], l[1]}, []int{l[0], l[4], l[1]}))
		})
	})
	if found[1] < 100 || found[2] < 100 {
		t.Errorf("too few are tried: %v", found)
	}
}

// long tells a subdivision of n vertices with about as many in each path, the
// tops last of all, and its graph.
func long(kind, n int) (api.Graph, Sub) {
	tops, pairs, _ := slowShape(kind)
	inner := make([]int, len(pairs))
	for v := range n - tops {
		inner[v%len(inner)]++
	}
	return made(kind, n, inner, func(v int) int { return n - 1 - v })
}

// TestI1ManyVertices: each edge is needed, also of long paths, and no others
// matter, however many there are.
func TestI1ManyVertices(t *testing.T) {
	for kind := 1; kind <= 2; kind++ {
		for _, n := range []int{10, 11, 17, 40, 100, api.MaxN} {
			g, s := long(kind, n)
			wantCheck(t, g, s, true)
			for i := 0; i < len(g.E); i += 1 + n/90 {
				less, _ := graph.Without(g, g.E[i].A, g.E[i].B)
				wantCheck(t, less, s, false)
			}
			more := crowded(g)
			wantCheck(t, more, s, true)
			for i, p := range s.Paths {
				wantCheck(t, more, spoiltPath(s, i, append(slices.Clone(p[:len(p)-1]), p[1], p[len(p)-1])...), false)
				wantCheck(t, more, spoiltPath(s, i, slices.Repeat([]int{0}, 1<<20)...), false)
				other := s.Paths[(i+1)%len(s.Paths)]
				wantCheck(t, more, spoiltPath(s, i, slices.Insert(slices.Clone(p), len(p)/2, other[len(other)/2])...), false)
			}
		}
	}
}

// crowded tells g with as many edges more as there may be, as many as stand
// there.
func crowded(g api.Graph) api.Graph {
	more := slices.Clone(g.E)
	for _, e := range pairs(g.N) {
		if len(more) < api.MaxM && !slices.Contains(g.E, e) {
			more = append(more, e)
		}
	}
	out, _ := graph.Normal(g.N, more)
	return out
}

func TestI1Greatest(t *testing.T) {
	g := full() // of 90 vertices, all are beside each other but for a few of the last four
	nothing := make([]int, 6)
	_, s := made(1, 90, nothing, func(v int) int { return 3 - v })
	wantCheck(t, g, s, true)
	_, s = made(1, 90, nothing, func(v int) int { return 86 + v })
	wantCheck(t, g, s, false)
	for kind, inner := range [][]int{1: {20, 30, 6, 10, 9, 11}, 2: {20, 30, 38}} {
		if kind > 0 {
			_, s = made(kind, 90, inner, func(v int) int { return v * 7 % 90 })
			wantCheck(t, g, s, true)
			_, s = made(kind, 90, inner, func(v int) int { return (v + 40) % 90 })
			wantCheck(t, g, s, false)
		}
	}
	wantCheck(t, api.Graph{N: api.MaxN}, s, false)
	last := api.Graph{N: api.MaxN}
	for _, e := range pairs(4) {
		last.E = append(last.E, api.Edge{A: e.A + 996, B: e.B + 996})
	}
	_, s = made(1, api.MaxN, nothing, func(v int) int { return 996 + v })
	wantCheck(t, last, s, true)
	for _, p := range append(s.Paths, s.Tops) {
		for i := range p {
			p[i]++
		}
	}
	wantCheck(t, last, s, false)
}

func TestI2Example(t *testing.T) {
	wantRead(t, fan(), fanSub(), true)
}

func TestI2Patterns(t *testing.T) {
	wantRead(t, minor.Pattern(minor.K4), a4(row(0, 3), []int{0, 1}, []int{0, 2}, []int{0, 3}, []int{1, 2}, []int{1, 3}, []int{2, 3}), true)
	wantRead(t, minor.Pattern(minor.K23), a23([]int{0, 1}, []int{0, 2, 1}, []int{0, 3, 1}, []int{0, 4, 1}), true)
}

// TestI2Order: what is first by one end, or one vertex, is last by another.
func TestI2Order(t *testing.T) {
	wantRead(t, with(8, 0, 3, 0, 6, 0, 7, 1, 3, 1, 4, 2, 4, 2, 5, 5, 6, 5, 7, 6, 7),
		a4([]int{0, 5, 6, 7}, []int{0, 3, 1, 4, 2, 5}, []int{0, 6}, []int{0, 7}, []int{5, 6}, []int{5, 7}, []int{6, 7}), true)
	wantRead(t, with(8, 0, 1, 0, 2, 0, 3, 1, 7, 2, 6, 3, 5, 5, 6, 5, 7, 6, 7),
		a4([]int{0, 5, 6, 7}, []int{0, 3, 5}, []int{0, 2, 6}, []int{0, 1, 7}, []int{5, 6}, []int{5, 7}, []int{6, 7}), true)
	wantRead(t, with(7, 0, 3, 0, 6, 1, 3, 1, 5, 2, 3, 2, 4, 4, 5, 4, 6),
		a23([]int{3, 4}, []int{3, 0, 6, 4}, []int{3, 1, 5, 4}, []int{3, 2, 4}), true)
	wantRead(t, with(9, 0, 5, 0, 8, 1, 5, 1, 8, 2, 3, 2, 8, 3, 4, 4, 5),
		a23([]int{5, 8}, []int{5, 0, 8}, []int{5, 1, 8}, []int{5, 4, 3, 2, 8}), true)
}

// TestI2AllSmallGraphs: there is never more than one, and it is told. Of six
// vertices, a few of the many graphs are left to be gone through.
func TestI2AllSmallGraphs(t *testing.T) {
	found := map[int]int{}
	for n := range 7 {
		count := 0
		eachGraph(n, func(g api.Graph) {
			every := 1
			if n == 6 && len(g.E) > 7 {
				every = 4
			}
			if n == 6 && len(g.E) > 9 {
				every = 100
			}
			if count++; count%every > 0 {
				return
			}
			all := slowRead(g)
			if len(all) > 1 {
				t.Fatalf("in %v, there are %v", g, all)
			}
			if len(all) == 0 {
				wantNone(t, g)
				return
			}
			found[all[0].Kind]++
			wantRead(t, g, all[0], true)
		})
	}
	if found[1] < 50 || found[2] < 50 {
		t.Errorf("too few are found: %v", found)
	}
}

func TestI2Grown(t *testing.T) {
	for seed := range 600 {
		g, s := grown(seed)
		wantRead(t, g, inOrder(s), true)
		if g.N > 9 {
			continue
		}
		if all := slowRead(g); len(all) != 1 || !same(all[0], inOrder(s)) {
			t.Errorf("the slow reading of %v is %v", g, all)
		}
	}
}

// wantSome: there is one of that kind in g, in the order that is asked for.
func wantSome(t *testing.T, kind int, g api.Graph) {
	t.Helper()
	s, ok := Read(g)
	if !ok || s.Kind != kind || !slowCheck(g, s) || !slices.Equal(slowEdges(s), g.E) || !same(s, inOrder(s)) {
		t.Errorf("Read of %s is %s", brief(g), brief(ok, s))
	}
}

// within tells which path of s has v inside it; -1, if none has.
func within(s Sub, v int) int {
	return slices.IndexFunc(s.Paths, func(p []int) bool { return slices.Contains(p[1:len(p)-1], v) })
}

// TestI2OneEdgeMore: there is one with all edges just if two inner vertices of
// unlike paths of a K23 are joined; it is a K4.
func TestI2OneEdgeMore(t *testing.T) {
	found := 0
	for seed := range 120 {
		g, s := grown(seed)
		for _, e := range pairs(g.N) {
			if slices.Contains(g.E, e) {
				continue
			}
			more, _ := graph.Add(g, e.A, e.B)
			i, k := within(s, e.A), within(s, e.B)
			if s.Kind == 2 && i >= 0 && k >= 0 && i != k {
				found++
				wantSome(t, 1, more)
				continue
			}
			wantNone(t, more)
		}
	}
	if found < 100 {
		t.Errorf("but %d are tried", found)
	}
}

// TestI2OneEdgeFewer: there is one with all edges just if a K4 lacks a path of
// one edge, and the path between the two other tops has more; it is a K23.
func TestI2OneEdgeFewer(t *testing.T) {
	found := 0
	for seed := range 600 {
		g, s := grown(seed)
		for _, e := range g.E {
			less, _ := graph.Without(g, e.A, e.B)
			i := slices.IndexFunc(s.Paths, func(p []int) bool {
				return len(p) == 2 && min(p[0], p[1]) == e.A && max(p[0], p[1]) == e.B
			})
			// Of I1's order, what is as far from the end is between the others.
			if s.Kind == 1 && i >= 0 && len(s.Paths[5-i]) > 2 {
				found++
				wantSome(t, 2, less)
				continue
			}
			wantNone(t, less)
		}
	}
	if found < 100 {
		t.Errorf("but %d are tried", found)
	}
}

// besides tells both graphs as one, without an edge between them.
func besides(g, h api.Graph) api.Graph {
	out := api.Graph{N: g.N + h.N, E: slices.Clone(g.E)}
	for _, e := range h.E {
		out.E = append(out.E, api.Edge{A: e.A + g.N, B: e.B + g.N})
	}
	return out
}

// TestI2SecondComponent: vertices without edges change nothing, whatever else
// stands there leaves none.
func TestI2SecondComponent(t *testing.T) {
	for seed := range 60 {
		g, s := grown(seed)
		for k := range 4 {
			wantRead(t, besides(g, with(k)), inOrder(s), true)
			wantSome(t, s.Kind, besides(with(k), g))
		}
		other, _ := grown(seed + 1)
		for _, h := range []api.Graph{with(2, 0, 1), pathOf(3), pathOf(9), ringOf(3), ringOf(4), ringOf(7), {N: 5, E: pairs(5)}, minor.Pattern(1), minor.Pattern(2), g, other} {
			wantNone(t, besides(g, h))
			wantNone(t, besides(h, g))
		}
	}
}

func TestI2NoForks(t *testing.T) {
	for _, n := range []int{0, 1, 2, 3, 4, 5, 6, 7, 50, api.MaxN} {
		wantNone(t, with(n))
		wantNone(t, pathOf(n))
		if n > 2 {
			wantNone(t, ringOf(n))
		}
		if n > 1 {
			wantNone(t, with(n, 0, n-1))
			wantNone(t, with(n, n-2, n-1))
		}
	}
	wantNone(t, besides(ringOf(5), ringOf(3)))
	wantNone(t, besides(pathOf(5), pathOf(3)))
}

// wheelOf tells a ring with a vertex beside all of its own.
func wheelOf(rim int) api.Graph {
	g := ringOf(rim)
	for v := range rim {
		g, _ = graph.Add(api.Graph{N: rim + 1, E: g.E}, v, rim)
	}
	return g
}

// bipartite tells the graph in which each of the first a vertices is beside
// each of the b others.
func bipartite(a, b int) api.Graph {
	g := api.Graph{N: a + b}
	for v := range a {
		for w := range b {
			g.E = append(g.E, api.Edge{A: v, B: a + w})
		}
	}
	return g
}

// TestI2MoreThanOneWay: there are subdivisions in these, but none with all
// edges.
func TestI2MoreThanOneWay(t *testing.T) {
	wantSome(t, 1, wheelOf(3))
	for _, rim := range []int{4, 5, 6, 7, 20, 300} {
		wantNone(t, wheelOf(rim))
	}
	for n := 5; n < 10; n++ {
		wantNone(t, api.Graph{N: n, E: pairs(n)})
	}
	wantSome(t, 2, bipartite(2, 3))
	wantSome(t, 2, bipartite(3, 2))
	for _, x := range [][2]int{{1, 3}, {1, 4}, {2, 2}, {2, 4}, {2, 5}, {3, 3}, {3, 4}, {4, 4}, {4, 2}, {5, 2}, {3, 1}, {2, 300}} {
		wantNone(t, bipartite(x[0], x[1]))
	}
	prism := with(6, 0, 1, 0, 2, 0, 3, 1, 2, 1, 4, 2, 5, 3, 4, 3, 5, 4, 5)
	cube := with(8, 0, 1, 0, 2, 0, 4, 1, 3, 1, 5, 2, 3, 2, 6, 3, 7, 4, 5, 4, 6, 5, 7, 6, 7)
	ladder := with(6, 0, 1, 0, 2, 1, 3, 2, 3, 2, 4, 3, 5, 4, 5)
	wantNone(t, prism)
	wantNone(t, cube)
	wantNone(t, ladder)
	wantNone(t, crowded(with(1000)))
	wantNone(t, full())
}

// normal tells the graph whose edges have the ends l, in any order.
func normal(n int, l ...int) api.Graph {
	g, e := graph.Normal(n, with(n, l...).E)
	if e != api.OK {
		panic(e)
	}
	return g
}

// TestI2ForksOtherwise: there are as many vertices of three neighbours as
// there should be, or nearly as many, but what is between them is another
// thing.
func TestI2ForksOtherwise(t *testing.T) {
	theta := normal(5, 0, 2, 2, 1, 0, 3, 3, 1, 0, 4, 4, 1)
	dumbbell := normal(6, 0, 1, 1, 2, 2, 0, 3, 4, 4, 5, 5, 3, 0, 3)
	four := minor.Pattern(minor.K4)
	five := api.Graph{N: 5, E: pairs(5)}
	for name, g := range map[string]api.Graph{
		"two, and an edge between them":  normal(4, 0, 1, 0, 2, 2, 1, 0, 3, 3, 1),
		"two, an edge and long paths":    normal(7, 0, 1, 0, 2, 2, 3, 3, 1, 0, 4, 4, 5, 5, 6, 6, 1),
		"two rings with an edge between": dumbbell,
		"two rings with a path between":  normal(9, 0, 1, 1, 2, 2, 0, 3, 4, 4, 5, 5, 3, 0, 6, 6, 7, 7, 8, 8, 3),
		"a ring with two leaves":         normal(6, 0, 1, 1, 2, 2, 3, 3, 0, 0, 4, 2, 5),
		"two joined by two, with leaves": normal(6, 0, 2, 2, 1, 0, 3, 3, 1, 0, 4, 1, 5),
		"two stars":                      normal(8, 0, 1, 0, 2, 0, 3, 4, 5, 4, 6, 4, 7),
		"two stars that hang together":   normal(6, 0, 1, 0, 2, 0, 3, 1, 4, 1, 5),
		"a ring with a leaf, and a star": normal(8, 0, 1, 1, 2, 2, 0, 0, 3, 4, 5, 4, 6, 4, 7),
		"two paths that meet within":     normal(5, 0, 2, 2, 1, 0, 3, 3, 1, 0, 4, 4, 1, 2, 3, 2, 4),
		"four joined twice, twice":       normal(6, 0, 1, 0, 4, 4, 1, 2, 3, 2, 5, 5, 3, 0, 2, 1, 3),
		"the same by long paths":         normal(12, 0, 4, 4, 1, 0, 5, 5, 6, 6, 1, 2, 7, 7, 3, 2, 8, 8, 3, 0, 9, 9, 2, 1, 10, 10, 11, 11, 3),
		"the same, crossed":              normal(6, 0, 2, 0, 4, 4, 2, 1, 3, 1, 5, 5, 3, 0, 3, 1, 2),
		"the same, otherwise":            normal(6, 0, 3, 0, 4, 4, 3, 1, 2, 1, 5, 5, 2, 0, 1, 2, 3),
		"three rings at a star":          normal(10, 0, 1, 0, 2, 0, 3, 1, 4, 4, 5, 5, 1, 2, 6, 6, 7, 7, 2, 3, 8, 8, 9, 9, 3),
		"joined twice, and a ring":       normal(7, 0, 1, 0, 4, 4, 1, 0, 2, 1, 2, 2, 3, 3, 5, 5, 6, 6, 3),
		"two K23":                        besides(theta, theta),
		"a K23 and two rings":            besides(theta, dumbbell),
		"two rings twice":                besides(dumbbell, dumbbell),
		"a K23 and a ring":               besides(theta, ringOf(4)),
		"a K4 and a ring":                besides(four, ringOf(4)),
		"a K23 and another graph":        besides(theta, five),
		"a K4 and another graph":         besides(four, five),
		"another graph and a K4":         besides(five, four),
		"a star of stars":                normal(10, 0, 1, 0, 2, 0, 3, 1, 4, 1, 5, 2, 6, 2, 7, 3, 8, 3, 9),
		"a ring with four leaves":        normal(8, 0, 1, 1, 2, 2, 3, 3, 0, 0, 4, 1, 5, 2, 6, 3, 7),
		"a K4 without one path":          normal(6, 0, 1, 0, 2, 0, 3, 1, 2, 1, 3, 2, 4, 3, 5),
		"two paths of a K4 that meet":    normal(5, 0, 1, 0, 2, 1, 3, 2, 3, 0, 4, 4, 3, 1, 4, 4, 2),
		"two of a K4 that meet at a top": normal(5, 0, 1, 0, 2, 0, 3, 0, 4, 1, 2, 1, 3, 2, 3, 3, 4),
		"a ring within a path of a K4":   normal(8, 0, 1, 0, 2, 0, 3, 1, 2, 1, 3, 2, 4, 4, 5, 5, 3, 4, 6, 6, 7, 7, 4),
		"a ring at a top of a K4":        normal(6, 0, 1, 0, 2, 0, 3, 1, 2, 1, 3, 2, 3, 0, 4, 4, 5, 5, 0),
		"a leaf within a path of a K4":   normal(6, 0, 1, 0, 2, 0, 3, 1, 2, 1, 3, 2, 4, 4, 3, 4, 5),
		"a leaf at a top of a K4":        normal(5, 0, 1, 0, 2, 0, 3, 0, 4, 1, 2, 1, 3, 2, 3),
		"a leaf within a path of a K23":  normal(6, 0, 2, 2, 1, 0, 3, 3, 1, 0, 4, 4, 1, 2, 5),
		"a leaf at a top of a K23":       normal(6, 0, 2, 2, 1, 0, 3, 3, 1, 0, 4, 4, 1, 1, 5),
		"a star":                         normal(4, 0, 1, 0, 2, 0, 3),
		"a ring with a leaf":             normal(4, 0, 1, 1, 2, 2, 0, 0, 3),
		"no forks, but four neighbours":  five,
		"two rings at one vertex":        normal(5, 0, 1, 1, 2, 2, 0, 0, 3, 3, 4, 4, 0),
		"six":                            normal(6, 0, 1, 1, 2, 2, 3, 3, 4, 4, 5, 5, 0, 0, 3, 1, 4, 2, 5),
		"six, one between two paths":     normal(6, 0, 1, 0, 2, 0, 3, 1, 2, 1, 4, 4, 3, 2, 5, 5, 3, 4, 5),
	} {
		t.Run(name, func(t *testing.T) {
			wantNone(t, g)
			if g.N < 10 && len(slowRead(g)) > 0 {
				t.Error("the slow reading tells one")
			}
		})
	}
}

// TestI2ManyVertices: long paths, and as many edges as there may be.
func TestI2ManyVertices(t *testing.T) {
	for kind := 1; kind <= 2; kind++ {
		for _, n := range []int{10, 11, 17, 40, 100, api.MaxN - 1, api.MaxN} {
			g, s := long(kind, n)
			wantRead(t, g, inOrder(s), true)
			wantNone(t, crowded(g))
			for i := 0; i < len(g.E); i += 1 + n/40 {
				less, _ := graph.Without(g, g.E[i].A, g.E[i].B)
				wantNone(t, less)
			}
		}
		// One path has nearly all vertices.
		for i := range 3 {
			inner := []int{1, 1, 1, 0, 0, 0}
			inner[i] = 980
			g, s := made(kind, api.MaxN, inner, func(v int) int { return (v*387 + 11) % api.MaxN })
			wantRead(t, g, inOrder(s), true)
		}
	}
}

func TestI3Edges(t *testing.T) {
	if l := Edges(fanSub()); !slices.Equal(l, fan().E) {
		t.Errorf("Edges of the example: %v", l)
	}
	for want, s := range map[string]Sub{
		"[]":                             {},
		"[] ":                            {Kind: minor.K4, Tops: row(0, 3)},
		"[]  ":                           {Paths: [][]int{{}, {5}, nil, {-1}}},
		"[{0 1}]":                        {Paths: [][]int{{1, 0}}},
		"[{0 1}] ":                       {Paths: [][]int{{1, 0}, {0, 1}, {1, 0, 1, 0}, {}, {1}}},
		"[{3 3}]":                        {Paths: [][]int{{3, 3}, {3, 3, 3}}},
		"[{2 3} {3 3}]":                  {Paths: [][]int{{3, 3, 2}}},
		"[{-5 -2} {-2 -2} {-2 7}]":       {Kind: -3, Paths: [][]int{{7, -2, -2}, {-2, -5}}},
		"[{1 2} {1 3} {2 3}]":            {Kind: minor.K23, Tops: []int{9, 9}, Paths: [][]int{{3, 2}, {3, 1, 2, 3}}},
		"[{0 9} {1 8} {1 10} {2 7}]":     {Paths: [][]int{{2, 7}, {10, 1, 8}, {9, 0}}},
		"[{1 2} {2 3} {3 4}]":            {Kind: minor.K4, Paths: [][]int{{4, 3}, {2, 3}, {1, 2}, {2, 1}}},
		"[{0 1} {0 2} {0 10} {1 3}]":     {Paths: [][]int{{10, 0, 2}, {3, 1, 0}}},
		"[{0 1} {1 2} {4 5} {100 2000}]": {Paths: [][]int{{2000, 100}, {0, 1, 2}, {5, 4}}},
	} {
		if got := fmt.Sprint(Edges(s)); got != strings.TrimSpace(want) {
			t.Errorf("Edges of %v is %s", s, got)
		}
		wantParts(t, s)
	}
}

// TestI3AllShortPaths: all rows of few numbers, as one path and as several.
func TestI3AllShortPaths(t *testing.T) {
	eachRow(5, -1, 3, func(l []int) {
		wantParts(t, Sub{Paths: [][]int{l}})
		wantParts(t, a23([]int{0, 1}, l, []int{1, 0, 2}, l[:len(l)/2]))
		wantParts(t, a4(l, l, []int{5, 0}, []int{1, 2}, []int{9, 1, 5}, []int{3, 3}, []int{1, 2, 3, 4}))
	})
}

func TestI3ModelExamples(t *testing.T) {
	s := a4([]int{3, 1, 0, 2}, []int{3, 5, 1}, []int{3, 0}, []int{3, 2}, []int{1, 4, 0}, []int{1, 6, 7, 2}, []int{0, 2})
	if m := Model(s); m.Kind != minor.K4 || !sameLists(m.Sets, [][]int{{3, 5}, {1, 4, 6, 7}, {0}, {2}}) {
		t.Error(m)
	}
	s = a4([]int{9, 8, 7, 6}, []int{9, 1, 2, 8}, []int{9, 3, 7}, []int{9, 4, 5, 6}, []int{8, 10, 7}, []int{8, 11, 6}, []int{7, 13, 12, 6})
	if m := Model(s); m.Kind != minor.K4 || !sameLists(m.Sets, [][]int{{9, 1, 2, 3, 4, 5}, {8, 10, 11}, {7, 13, 12}, {6}}) {
		t.Error(m)
	}
	s = a23([]int{3, 1}, []int{3, 5, 1}, []int{3, 1}, []int{3, 2, 4, 1})
	if m := Model(s); m.Kind != minor.K23 || !sameLists(m.Sets, [][]int{{3}, {1}, {5}, {}, {2, 4}}) {
		t.Error(m)
	}
	if m := Model(fanSub()); m.Kind != minor.K4 || !sameLists(m.Sets, [][]int{{0}, {1, 4}, {2}, {3}}) {
		t.Error(m)
	}
}

// TestI3ModelForms: of all kinds, with however many tops and paths, of which
// each may be too short.
func TestI3ModelForms(t *testing.T) {
	found := map[int]int{}
	for _, kind := range append(noPatterns(), minor.K4, minor.K23) {
		for tops := range 8 {
			for paths := range 9 {
				for short := -1; short < paths; short++ {
					for length := range 4 {
						s := Sub{Kind: kind, Tops: row(20, 30)[:tops]}
						for i := range paths {
							p := row(i, i+1+i%3)
							if i == short {
								p = row(i, i+3)[:length]
							}
							s.Paths = append(s.Paths, p)
						}
						wantParts(t, s)
						found[Model(s).Kind]++
					}
				}
			}
		}
	}
	if len(found) != 3 || found[1] != 4+6*2 || found[2] != 4+3*2 {
		t.Errorf("of each kind are found %v", found)
	}
}

// TestI3ModelWhatever: what stands at the ends of the paths is not looked at,
// nor whether anything is a vertex.
func TestI3ModelWhatever(t *testing.T) {
	wantParts(t, a4([]int{-1, -1, 0, 0}, []int{5, 6}, []int{7, 7, 7}, []int{-3, math.MinInt, 2}, []int{0, 0}, []int{1, 2, 3, 4}, []int{math.MaxInt, 1, 1}))
	wantParts(t, a4([]int{5, 5, 5, 5}, []int{5, 5, 5}, []int{5, 5, 5}, []int{5, 5, 5}, []int{5, 5, 5}, []int{5, 5, 5}, []int{5, 5, 5}))
	wantParts(t, a23([]int{math.MaxInt, -1}, []int{1, 2}, []int{-1, 3, math.MaxInt}, []int{4, 4, 4, 4}))
	wantParts(t, a23([]int{0, 0}, []int{0, 0}, []int{0, 0}, []int{0, 0}))
}

func TestI3Long(t *testing.T) {
	for kind := 1; kind <= 2; kind++ {
		g, s := long(kind, api.MaxN)
		wantParts(t, s)
		if l := Edges(s); !slices.Equal(l, g.E) {
			t.Errorf("Edges of %s", brief(s))
		}
		s.Paths[2] = slices.Repeat([]int{7, 3, 3, -1}, 1<<17)
		if l := Edges(s); len(l) > len(g.E)+4 || !slices.Contains(l, api.Edge{A: -1, B: 7}) || !slices.Contains(l, api.Edge{A: 3, B: 3}) {
			t.Errorf("Edges, one path of which goes to and fro, are %s", brief(l))
		}
		home := map[int]int{1: 0, 2: 4}[kind]
		if m := Model(s); m.Kind != kind || len(m.Sets[home]) < 1<<19-2 {
			t.Errorf("Model, one path of which goes to and fro, is %s", brief(m))
		}
	}
}

// TestWhatFollows: a subdivision's model is a model, and a subdivision stays
// one if an edge is added, and so does its model.
func TestWhatFollows(t *testing.T) {
	found := map[int]int{}
	follows := func(g api.Graph) {
		for kind := 1; kind <= 2; kind++ {
			eachSub(g, kind, func(s Sub) {
				if found[kind]++; found[kind]%7 > 0 && found[kind] > 500 {
					return
				}
				wantCheck(t, g, s, true)
				m := Model(s)
				if !minor.Check(g, m) {
					t.Errorf("in %v, of %v the model is %v", g, s, m)
				}
				for _, e := range pairs(g.N) {
					more, code := graph.Add(g, e.A, e.B)
					if code == api.OK && (!Check(more, s) || !minor.Check(more, m)) {
						t.Errorf("in %v with %v: %v is no subdivision any more", g, e, s)
					}
				}
			})
		}
	}
	for n := range 6 {
		count := 0
		eachGraph(n, func(g api.Graph) {
			if count++; n < 5 || count%5 == 0 {
				follows(g)
			}
		})
	}
	follows(api.Graph{N: 6, E: pairs(6)})
	for seed := range 100 {
		g, s := grown(seed)
		wantCheck(t, g, s, true)
		if !minor.Check(g, Model(s)) {
			t.Errorf("in %v, of %v the model is %v", g, s, Model(s))
		}
	}
	for kind := 1; kind <= 2; kind++ {
		g, s := long(kind, api.MaxN)
		if !minor.Check(g, Model(s)) || !minor.Check(crowded(g), Model(s)) {
			t.Errorf("a long one's model of kind %d is none", kind)
		}
	}
	if min(found[1], found[2]) < 200 {
		t.Errorf("too few are tried: %v", found)
	}
}

// TestReadAndPutTogether: what is read has the edges of which it is read.
func TestReadAndPutTogether(t *testing.T) {
	for seed := range 200 {
		g, _ := grown(seed)
		s, ok := Read(g)
		again, e := graph.Normal(g.N, Edges(s))
		if !ok || e != api.OK || !slices.Equal(again.E, g.E) || !walk.Apart(s.Paths) {
			t.Errorf("of %v is read %v", g, s)
		}
	}
}

func TestNotRight(t *testing.T) {
	_, four := crowd(1)
	_, two := crowd(2)
	for name, g := range notRight() {
		t.Run(name, func(t *testing.T) {
			wantNone(t, g)
			for _, s := range []Sub{
				{}, four, two, a4(nil), a23(nil), a4(row(0, 3), []int{0, 1}, []int{0, 2}, []int{0, 3}, []int{1, 2}, []int{1, 3}, []int{2, 3}),
				a4([]int{0, 0, 0, 0}, []int{0}, []int{0}, []int{0}, []int{0}, []int{0}, []int{0}), a23([]int{0, 1}, []int{0, 1}, []int{0, 1}, []int{0, 1}),
				a23([]int{0, 1}, []int{0, 2, 1}, []int{0, 2, 1}, []int{0, 2, 1}), a23([]int{-1, 0}, []int{-1, 1, 0}, []int{-1, 2, 0}, []int{-1, 3, 0}),
				a23([]int{0, 1}, []int{0, math.MaxInt, 1}, []int{0, math.MinInt, 1}, []int{0, api.MaxN, 1}),
				a23([]int{0, 1}, []int{0, 2, 1}, []int{0, 3, 1}, []int{0, 4, 1}), a23([]int{0, 1}, row(0, 1), row(0, 1), row(0, 1)),
			} {
				wantCheck(t, g, s, false)
			}
		})
	}
}

// TestNotRightOtherwise: with the same edges, but for what isn't right, these
// would be subdivisions.
func TestNotRightOtherwise(t *testing.T) {
	for kind := 1; kind <= 2; kind++ {
		g, s := made(kind, 0+[]int{0, 8, 6}[kind], []int{1, 2, 1, 0, 0, 0}, itself)
		neither := func(n int, edges []api.Edge) {
			t.Helper()
			wantCheck(t, api.Graph{N: n, E: edges}, s, false)
			wantNone(t, api.Graph{N: n, E: edges})
		}
		wantRead(t, g, inOrder(s), true)
		wantRead(t, api.Graph{N: api.MaxN, E: g.E}, inOrder(s), true)
		neither(g.N-1, g.E)
		neither(-g.N, g.E)
		neither(0, g.E)
		neither(api.MaxN+1, g.E)
		neither(math.MaxInt, g.E)
		neither(math.MinInt, g.E)
		last := len(g.E) - 1
		for _, e := range []api.Edge{g.E[last], g.E[0], {A: g.N - 1, B: g.N}, {A: g.N - 1, B: g.N - 1}, {A: -1, B: 0}, {A: g.N - 1, B: 0}} {
			neither(g.N, append(slices.Clone(g.E), e))
			neither(g.N, append([]api.Edge{e}, g.E...))
		}
		turned := slices.Clone(g.E)
		slices.Reverse(turned)
		neither(g.N, turned)
		for i := range g.E {
			other := slices.Clone(g.E)
			other[i].A, other[i].B = other[i].B, other[i].A
			neither(g.N, other)
			neither(g.N, slices.Insert(slices.Clone(g.E), i, g.E[i]))
		}
		for i := range last {
			other := slices.Clone(g.E)
			other[i], other[i+1] = other[i+1], other[i]
			neither(g.N, other)
		}
		neither(100, append(slices.Clone(g.E), pairs(100)[99:4099]...))
	}
}

// spoil writes over all lists of s, also behind what is told of them.
func spoil(s Sub) {
	for _, p := range append(s.Paths, s.Tops) {
		l := p[:cap(p)]
		for i := range l {
			l[i] = -7
		}
	}
	clear(s.Paths[:cap(s.Paths)])
}

// TestR1Read: what is told may be written over: neither the graph, nor a later
// answer, nor another part of the same one becomes another.
func TestR1Read(t *testing.T) {
	for kind := 1; kind <= 2; kind++ {
		g, _ := made(kind, 13, []int{1, 2, 1, 1, 0, 2}, func(v int) int { return 12 - v })
		edges, room := roomy(g.E...)
		g.E = edges
		want, _ := Read(g)
		want = kept(want)
		earlier, _ := Read(g)
		other, _ := Read(g)
		spoil(other)
		wantRead(t, g, want, true)
		for i := range want.Paths {
			got, _ := Read(g)
			l := got.Paths[i][:cap(got.Paths[i])]
			for k := range l {
				l[k] = -7
			}
			_ = append(got.Paths[i], -7, -7)
			got.Paths[i] = want.Paths[i]
			if !same(got, want) {
				t.Errorf("path %d written over, the others are %v, not %v", i, got, want)
			}
		}
		got, _ := Read(g)
		got.Tops = append(got.Tops, 5, 5)
		got.Tops[0], got.Tops[1] = -7, -7
		if !sameLists(got.Paths, want.Paths) {
			t.Errorf("the tops written over, the paths are %v, not %v", got.Paths, want.Paths)
		}
		if slices.ContainsFunc(room, func(e api.Edge) bool { return e != api.Edge{} }) {
			t.Errorf("behind the edges stands %v", room)
		}
		clear(g.E)
		if !same(earlier, want) {
			t.Errorf("the graph written over, what was read is %v, not %v", earlier, want)
		}
	}
}

// roomySub tells s with room behind each of its lists, and asks whether
// something was put there.
func roomySub(s Sub) (Sub, func() bool) {
	out := Sub{Kind: s.Kind}
	tops, behind := roomy(s.Tops...)
	out.Tops = tops
	rooms := [][]int{behind}
	for _, p := range s.Paths {
		l, behind := roomy(p...)
		out.Paths, rooms = append(out.Paths, l), append(rooms, behind)
	}
	paths, rest := roomy(out.Paths...)
	out.Paths = paths
	return out, func() bool {
		return slices.ContainsFunc(rest, func(p []int) bool { return p != nil }) ||
			slices.ContainsFunc(slices.Concat(rooms...), func(v int) bool { return v != 0 })
	}
}

// TestR1Parts: neither Check, nor Edges, nor Model leaves anything else of
// what is handed in, or keeps it.
func TestR1Parts(t *testing.T) {
	for kind := 1; kind <= 2; kind++ {
		g, given := crowd(kind)
		s, written := roomySub(given)
		wantCheck(t, g, s, true)
		edges, model := Edges(s), Model(s)
		other := Model(s)
		for _, set := range other.Sets {
			l := set[:cap(set)]
			for i := range l {
				l[i] = -7
			}
		}
		clear(Edges(s))
		if written() || !same(s, given) {
			t.Errorf("of %v is left %v", given, s)
		}
		wantParts(t, s)
		for i := range model.Sets {
			got := Model(s)
			l := got.Sets[i][:cap(got.Sets[i])]
			for k := range l {
				l[k] = -7
			}
			_ = append(got.Sets[i], -7, -7)
			got.Sets[i] = model.Sets[i]
			if !sameLists(got.Sets, model.Sets) {
				t.Errorf("set %d written over, the others are %v, not %v", i, got.Sets, model.Sets)
			}
		}
		spoil(s)
		if want := slowModel(given); !slices.Equal(edges, slowEdges(given)) || !sameLists(model.Sets, want.Sets) {
			t.Errorf("what was handed in written over, it is %v and %v", edges, model)
		}
	}
}

// TestR1OneListOften: the same list stands for several, and a path has what is
// behind another one's end.
func TestR1OneListOften(t *testing.T) {
	l := []int{3, 0, 5, 4}
	for _, s := range []Sub{a4(l, l, l, l, l, l, l), a4(l, l[:2], l[1:], l[:3], l, l[2:], l[1:3]), a23(l[:2], l, l, l), a23(l[2:], l[:3], l[1:], l)} {
		wantParts(t, s)
		m, want := Model(s), slowModel(s)
		for i := range m.Sets {
			for k := range m.Sets[i] {
				m.Sets[i][k] = -7 - i
			}
			for j := range i {
				if slices.Contains(m.Sets[j], -7-i) {
					t.Errorf("sets share their numbers: %v", m)
				}
			}
		}
		if again := Model(s); !sameLists(again.Sets, want.Sets) {
			t.Errorf("a model written over, it is %v", again)
		}
	}
}

// TestR1NotKept: the same lists with other numbers in them.
func TestR1NotKept(t *testing.T) {
	g, s := fan(), fanSub()
	wantCheck(t, g, s, true)
	s.Paths[4][1] = 2
	wantCheck(t, g, s, false)
	s.Paths[4][1] = 4
	s.Tops[3] = 4
	wantCheck(t, g, s, false)
	s.Tops[3] = 3
	wantCheck(t, g, s, true)
	g.E[6] = api.Edge{A: 2, B: 4}
	wantCheck(t, g, s, false)
	wantNone(t, g)
	g.E[5], g.E[6] = api.Edge{A: 2, B: 3}, api.Edge{A: 3, B: 4}
	wantRead(t, g, fanSub(), true)
	wantNone(t, api.Graph{N: 5, E: g.E[:6]})
}

// TestR2Extremes: numbers that can't be counted up end no call otherwise.
func TestR2Extremes(t *testing.T) {
	ends := []int{math.MinInt, math.MinInt + 1, -1, 0, 1, math.MaxInt - 1, math.MaxInt}
	for _, a := range ends {
		for _, b := range ends {
			p := []int{a, b, a, a, b}
			wantParts(t, Sub{Kind: a, Tops: ends, Paths: [][]int{ends, p, nil}})
			for _, s := range []Sub{a4([]int{a, b, a, b}, p, p, ends, p, ends, p), a23([]int{a, b}, p, []int{a, 3, b}, ends)} {
				wantParts(t, s)
				wantCheck(t, fan(), s, false)
				wantCheck(t, with(a, 0, 1), s, false)
			}
			wantNone(t, with(a, a, b))
			wantNone(t, with(4, a, b))
		}
	}
}

func TestR4SameAnswers(t *testing.T) {
	g, s := long(1, 300)
	h, two := long(2, 300)
	for i := range 20 {
		fewer, _ := grown(i)
		Read(fewer)
		wantRead(t, g, inOrder(s), true)
		wantRead(t, h, inOrder(two), true)
		wantRead(t, fan(), fanSub(), true)
		wantParts(t, s)
		wantParts(t, two)
	}
}

func FuzzTopo(f *testing.F) {
	f.Add(5, 1, []byte{0, 1, 0, 2, 0, 3, 1, 2, 1, 4, 2, 3, 3, 4}, []byte("\x00\x01\x02\x03\x80\x00\x01\x80\x00\x02\x80\x00\x03\x80\x01\x02\x80\x01\x04\x03\x80\x02\x03"))
	f.Add(5, 2, []byte{0, 2, 0, 3, 0, 4, 1, 2, 1, 3, 1, 4}, []byte("\x00\x01\x80\x00\x02\x01\x80\x00\x03\x01\x80\x00\x04\x01"))
	f.Add(7, 2, []byte{0, 2, 0, 3, 0, 4, 1, 2, 1, 5, 3, 5, 4, 6, 6, 1}, []byte("\x00\x01\x80\x00\x02\x01\x80\x00\x03\x05\x01\x80\x00\x04\x06\x01"))
	f.Add(-3, 0, []byte{0, 1}, []byte{0x80, 0xFF, 0x81})
	f.Fuzz(func(t *testing.T, n, kind int, ends, numbers []byte) {
		n = max(n%9, 0)
		var edges []api.Edge
		for i := 0; n > 0 && i+1 < min(len(ends), 40); i += 2 {
			edges = append(edges, api.Edge{A: int(ends[i]) % n, B: int(ends[i+1]) % n})
		}
		g, _ := graph.Normal(n, edges)
		s := Sub{Kind: kind}
		for _, b := range numbers[:min(len(numbers), 40)] {
			switch last := len(s.Paths) - 1; {
			case b == 0x80: // another path begins
				s.Paths = append(s.Paths, nil)
			case last < 0:
				s.Tops = append(s.Tops, int(int8(b)))
			default:
				s.Paths[last] = append(s.Paths[last], int(int8(b)))
			}
		}
		is := slowCheck(g, s)
		wantCheck(t, g, s, is)
		wantParts(t, s)
		if is && !minor.Check(g, Model(s)) {
			t.Errorf("in %v, of %v the model is %v", g, s, Model(s))
		}
		if len(g.E) > 12 {
			return
		}
		if all := slowRead(g); len(all) > 0 {
			wantRead(t, g, all[0], true)
		} else {
			wantNone(t, g)
		}
	})
}
