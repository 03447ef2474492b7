package part

import (
	"fmt"
	"math"
	"slices"
	"testing"

	"carcanet/api"
)

// pair is what Join and Same are handed.
type pair struct{ a, b int }

func pairsOf(l ...int) []pair {
	var out []pair
	for i := 0; i+1 < len(l); i += 2 {
		out = append(out, pair{l[i], l[i+1]})
	}
	return out
}

func with(n int, l ...int) api.Graph {
	g := api.Graph{N: n}
	for _, p := range pairsOf(l...) {
		g.E = append(g.E, api.Edge{A: p.a, B: p.b})
	}
	return g
}

// allPairs tells all pairs of n numbers, rising.
func allPairs(n int) []pair {
	var out []pair
	for a := range n {
		for b := a + 1; b < n; b++ {
			out = append(out, pair{a, b})
		}
	}
	return out
}

func same(x, y [][]int) bool {
	return slices.EqualFunc(x, y, slices.Equal[[]int])
}

// singles tells n classes of one number each.
func singles(n int) [][]int {
	var out [][]int
	for a := range n {
		out = append(out, []int{a})
	}
	return out
}

// table is the slow part: it tells of each two numbers whether they belong
// together.
type table [][]bool

func newTable(n int) table {
	t := make(table, n)
	for a := range t {
		t[a] = make([]bool, n)
		t[a][a] = true
	}
	return t
}

func (t table) same(a, b int) bool {
	return a >= 0 && b >= 0 && a < len(t) && b < len(t) && t[a][b]
}

// join goes through all pairs: those belong together from then on of which
// one did with a, and the other with b.
func (t table) join(a, b int) bool {
	if a < 0 || b < 0 || a >= len(t) || b >= len(t) || t[a][b] {
		return false
	}
	old := make(table, len(t))
	for x := range t {
		old[x] = slices.Clone(t[x])
	}
	for x := range t {
		for y := range t {
			if old[x][a] && old[b][y] || old[x][b] && old[a][y] {
				t[x][y] = true
			}
		}
	}
	return true
}

func (t table) classes() [][]int {
	var out [][]int
	for a := range t {
		if slices.Index(t[a], true) < a {
			continue
		}
		var class []int
		for b := range t {
			if t[a][b] {
				class = append(class, b)
			}
		}
		out = append(out, class)
	}
	return out
}

// wantState holds all that p tells against the slow part, also of what is
// none of the numbers.
func wantState(t *testing.T, what string, p *Part, slow table) {
	t.Helper()
	want := slow.classes()
	if got := p.Classes(); !same(got, want) {
		t.Fatalf("%s: Classes = %v, want %v", what, got, want)
	}
	if got := p.Count(); got != len(want) {
		t.Fatalf("%s: Count = %d, want %d", what, got, len(want))
	}
	for a := -1; a <= len(slow); a++ {
		for b := -1; b <= len(slow); b++ {
			if got := p.Same(a, b); got != slow.same(a, b) {
				t.Fatalf("%s: Same(%d, %d) = %t", what, a, b, got)
			}
		}
	}
}

func wantClasses(t *testing.T, p *Part, want ...[]int) {
	t.Helper()
	if got := p.Classes(); !same(got, want) {
		t.Errorf("Classes = %v, want %v", got, want)
	}
	if got := p.Count(); got != len(want) {
		t.Errorf("Count = %d, want %d", got, len(want))
	}
}

func wantJoin(t *testing.T, p *Part, a, b int, want bool) {
	t.Helper()
	if got := p.Join(a, b); got != want {
		t.Errorf("Join(%d, %d) = %t, want %t", a, b, got, want)
	}
}

func wantSame(t *testing.T, p *Part, a, b int, want bool) {
	t.Helper()
	if got := p.Same(a, b); got != want {
		t.Errorf("Same(%d, %d) = %t, want %t", a, b, got, want)
	}
}

func wantOf(t *testing.T, g api.Graph, want ...[]int) {
	t.Helper()
	before := slices.Clone(g.E)
	if got := Of(g); !same(got, want) {
		t.Errorf("Of(%v) = %v, want %v", g, got, want)
	}
	if !slices.Equal(g.E, before) {
		t.Errorf("Of left %v of %v", g.E, before)
	}
}

func TestD1Example(t *testing.T) {
	p := New(4)
	wantJoin(t, p, 2, 0, true)
	wantJoin(t, p, 0, 2, false)
	wantClasses(t, p, []int{0, 2}, []int{1}, []int{3})
}

func TestD1New(t *testing.T) {
	for _, n := range []int{0, 1, 2, 5, 40} {
		wantState(t, fmt.Sprintf("New(%d)", n), New(n), newTable(n))
	}
}

func TestD1NoNumber(t *testing.T) {
	for _, n := range []int{0, -1, -7, math.MinInt} {
		p := New(n)
		wantClasses(t, p)
		wantJoin(t, p, 0, 0, false)
		wantJoin(t, p, -1, 0, false)
		wantSame(t, p, 0, 0, false)
		wantSame(t, p, -1, -1, false)
		wantClasses(t, p)
	}
}

func TestD1MostNumbers(t *testing.T) {
	last := api.MaxN - 1
	for _, n := range []int{api.MaxN, api.MaxN + 1, 5 * api.MaxN, math.MaxInt} {
		p := New(n)
		wantClasses(t, p, singles(api.MaxN)...)
		wantSame(t, p, last, last, true)
		wantSame(t, p, api.MaxN, api.MaxN, false)
		wantJoin(t, p, api.MaxN, 0, false)
		wantJoin(t, p, 0, api.MaxN, false)
		wantClasses(t, p, singles(api.MaxN)...)
		wantJoin(t, p, last, 0, true)
		want := singles(last)
		want[0] = []int{0, last}
		wantClasses(t, p, want...)
	}
	p := New(api.MaxN - 1)
	wantClasses(t, p, singles(last)...)
	wantSame(t, p, last, last, false)
	wantJoin(t, p, last, 0, false)
}

func TestD1FirstAndLast(t *testing.T) {
	p := New(4)
	wantSame(t, p, 0, 0, true)
	wantSame(t, p, 3, 3, true)
	wantJoin(t, p, 3, 0, true)
	wantSame(t, p, 0, 3, true)
	wantSame(t, p, 3, 0, true)
	wantSame(t, p, 0, 1, false)
	wantSame(t, p, 2, 3, false)
	wantClasses(t, p, []int{0, 3}, []int{1}, []int{2})
}

func TestD1WithItself(t *testing.T) {
	p := New(3)
	for a := range 3 {
		wantJoin(t, p, a, a, false)
		wantSame(t, p, a, a, true)
	}
	wantClasses(t, p, singles(3)...)
	wantJoin(t, p, 1, 2, true)
	wantJoin(t, p, 1, 1, false)
	wantJoin(t, p, 2, 2, false)
	wantClasses(t, p, []int{0}, []int{1, 2})
}

func TestD1JoinedBefore(t *testing.T) {
	p := New(6)
	wantJoin(t, p, 1, 4, true)
	wantJoin(t, p, 1, 4, false)
	wantJoin(t, p, 4, 1, false)
	wantJoin(t, p, 4, 5, true)
	// By way of a third one they were joined, too.
	wantJoin(t, p, 5, 1, false)
	wantJoin(t, p, 1, 5, false)
	wantClasses(t, p, []int{0}, []int{1, 4, 5}, []int{2}, []int{3})
	wantJoin(t, p, 3, 0, true)
	wantJoin(t, p, 3, 5, true)
	wantJoin(t, p, 0, 1, false)
	wantJoin(t, p, 4, 3, false)
	wantClasses(t, p, []int{0, 1, 3, 4, 5}, []int{2})
}

func TestD1LeastNumbersFirst(t *testing.T) {
	p := New(8)
	// The greater ones are joined first, and the least number comes last.
	for _, j := range pairsOf(7, 6, 6, 1, 5, 4, 4, 2, 2, 0) {
		wantJoin(t, p, j.a, j.b, true)
	}
	wantClasses(t, p, []int{0, 2, 4, 5}, []int{1, 6, 7}, []int{3})
}

func TestD1WrongInputs(t *testing.T) {
	for _, n := range []int{1, 2, 5} {
		p, slow := New(n), newTable(n)
		for range 2 {
			for _, no := range []int{-1, -2, n, n + 1, api.MaxN, math.MinInt, math.MaxInt} {
				for a := range n {
					wantJoin(t, p, no, a, false)
					wantJoin(t, p, a, no, false)
					wantSame(t, p, no, a, false)
					wantSame(t, p, a, no, false)
				}
				wantJoin(t, p, no, no, false)
				wantSame(t, p, no, no, false)
				wantState(t, fmt.Sprintf("of %d, %d", n, no), p, slow)
			}
			p.Join(0, n-1)
			slow.join(0, n-1)
		}
	}
}

// eachRow goes through all rows of at most m pairs with numbers from low to
// high.
func eachRow(m, low, high int, visit func(l []pair)) {
	var l []pair
	var more func()
	more = func() {
		visit(l)
		if len(l) == m {
			return
		}
		for a := low; a <= high; a++ {
			for b := low; b <= high; b++ {
				l = append(l, pair{a, b})
				more()
				l = l[:len(l)-1]
			}
		}
	}
	more()
}

// wantJoins joins one pair behind the other, and looks at all after each.
func wantJoins(t *testing.T, n int, l []pair) {
	t.Helper()
	p, slow := New(n), newTable(n)
	for i, j := range l {
		what := fmt.Sprintf("New(%d), joined %v", n, l[:i+1])
		if got, want := p.Join(j.a, j.b), slow.join(j.a, j.b); got != want {
			t.Fatalf("%s: Join = %t, want %t", what, got, want)
		}
		wantState(t, what, p, slow)
	}
}

func TestD1AllShortRows(t *testing.T) {
	for n := range 4 {
		eachRow(3, -1, n, func(l []pair) { wantJoins(t, n, l) })
	}
	eachRow(4, 0, 3, func(l []pair) { wantJoins(t, 4, l) })
}

func TestD1NothingSeenBetween(t *testing.T) {
	// Nothing is asked ahead of the end, as asking may change how the
	// classes are kept.
	eachRow(4, 0, 3, func(l []pair) {
		p, slow := New(4), newTable(4)
		for _, j := range l {
			p.Join(j.a, j.b)
			slow.join(j.a, j.b)
		}
		wantState(t, fmt.Sprint(l), p, slow)
	})
}

// eachOrder goes through all orders of l.
func eachOrder(l []pair, visit func(l []pair)) {
	var more func(from int)
	more = func(from int) {
		if from == len(l) {
			visit(l)
			return
		}
		for i := from; i < len(l); i++ {
			l[from], l[i] = l[i], l[from]
			more(from + 1)
			l[from], l[i] = l[i], l[from]
		}
	}
	more(0)
}

func TestD1OrderDoesNotMatter(t *testing.T) {
	eachOrder(pairsOf(6, 2, 2, 8, 8, 6, 1, 7, 5, 1, 4, 4), func(l []pair) {
		for turned := range 2 {
			p := New(9)
			count := 0
			for i, j := range l {
				if i%2 == turned {
					j = pair{j.b, j.a}
				}
				if p.Join(j.a, j.b) {
					count++
				}
			}
			if count != 4 {
				t.Errorf("%v: %d joins of two", l, count)
			}
			wantClasses(t, p, []int{0}, []int{1, 5, 7}, []int{2, 6, 8}, []int{3}, []int{4})
		}
	})
}

func TestD1LongRows(t *testing.T) {
	last := api.MaxN - 1
	rows := map[string]func(i int) pair{
		"each with the next one":      func(i int) pair { return pair{i, i + 1} },
		"the next one with it":        func(i int) pair { return pair{i + 1, i} },
		"from the end":                func(i int) pair { return pair{last - i, last - i - 1} },
		"from the end, turned round":  func(i int) pair { return pair{last - i - 1, last - i} },
		"all with the first":          func(i int) pair { return pair{i + 1, 0} },
		"the first with all":          func(i int) pair { return pair{0, i + 1} },
		"all with the last":           func(i int) pair { return pair{i, last} },
		"each with what is half":      func(i int) pair { return pair{i + 1, i / 2} },
		"what is half with each":      func(i int) pair { return pair{i / 2, i + 1} },
		"by steps of seven, all over": func(i int) pair { return pair{7 * i % api.MaxN, 7 * (i + 1) % api.MaxN} },
	}
	all := make([]int, api.MaxN)
	for a := range all {
		all[a] = a
	}
	for name, row := range rows {
		p := New(api.MaxN)
		for i := range last {
			if !p.Join(row(i).a, row(i).b) {
				t.Errorf("%s: %d: false", name, i)
			}
		}
		if got := p.Classes(); p.Count() != 1 || !same(got, [][]int{all}) {
			t.Errorf("%s: %d classes, %v", name, p.Count(), got)
		}
		if !p.Same(0, last) || !p.Same(last, 1) || p.Join(last, 0) {
			t.Errorf("%s: the first and the last are not of one class", name)
		}
	}
}

func TestD1ManyClasses(t *testing.T) {
	for _, k := range []int{2, 3, 7, 333, 999} {
		p := New(api.MaxN)
		want := make([][]int, k)
		for a := range api.MaxN {
			want[a%k] = append(want[a%k], a)
			if a >= k {
				p.Join(a, a-k)
			}
		}
		wantClasses(t, p, want...)
		wantSame(t, p, 0, k-1, false)
		wantSame(t, p, api.MaxN-1, (api.MaxN-1)%k, true)
	}
}

func TestD1Apart(t *testing.T) {
	p, q := New(3), New(3)
	wantJoin(t, p, 0, 1, true)
	wantClasses(t, q, singles(3)...)
	wantJoin(t, q, 1, 2, true)
	wantClasses(t, p, []int{0, 1}, []int{2})
	wantClasses(t, q, []int{0}, []int{1, 2})
	wantJoin(t, New(3), 0, 1, true)
}

func TestD1AskingChangesNothing(t *testing.T) {
	p, slow := New(7), newTable(7)
	for _, j := range pairsOf(6, 5, 5, 4, 4, 3, 0, 2) {
		p.Join(j.a, j.b)
		slow.join(j.a, j.b)
	}
	for range 3 {
		wantState(t, "asked again", p, slow)
	}
}

// spoil writes over all lists, also behind what is told of them.
func spoil(classes [][]int) {
	for _, class := range classes {
		class = class[:cap(class)]
		for i := range class {
			class[i] = -7
		}
	}
	classes = classes[:cap(classes)]
	for i := range classes {
		classes[i] = []int{-7}
	}
}

// wantOwn looks whether writing over one list, or behind it, changes another
// one.
func wantOwn(t *testing.T, classes [][]int) {
	t.Helper()
	for i := range classes {
		kept := make([][]int, len(classes))
		for k, class := range classes {
			kept[k] = slices.Clone(class)
		}
		wide := classes[i][:cap(classes[i])]
		for k := range wide {
			wide[k] = -7
		}
		copy(wide, kept[i])
		if !same(classes, kept) {
			t.Fatalf("writing behind class %d of %v made %v", i, kept, classes)
		}
		for k := range classes[i] {
			classes[i][k] = -7
		}
		for k := range classes {
			if k != i && !slices.Equal(classes[k], kept[k]) {
				t.Fatalf("writing over class %d of %v made %v", i, kept, classes)
			}
		}
		copy(classes[i], kept[i])
	}
}

func TestD1NothingShared(t *testing.T) {
	p, slow := New(7), newTable(7)
	for _, j := range pairsOf(6, 5, 0, 2, 5, 4, 1, 1, 4, 0, 3, 3, 1, 3, 3, 6) {
		p.Join(j.a, j.b)
		slow.join(j.a, j.b)
		wantOwn(t, p.Classes())
		earlier, kept := p.Classes(), slow.classes()
		spoil(p.Classes())
		wantState(t, "written over", p, slow)
		if !same(earlier, kept) {
			t.Fatalf("writing over one answer left %v of another one", earlier)
		}
	}
	p = New(5)
	before := p.Classes()
	p.Join(4, 0)
	if !same(before, singles(5)) {
		t.Errorf("a join left %v of what was told ahead of it", before)
	}
}

func TestD2Of(t *testing.T) {
	wantOf(t, with(6, 0, 4, 1, 2, 2, 5), []int{0, 4}, []int{1, 2, 5}, []int{3})
	wantOf(t, with(5, 0, 1, 0, 2, 1, 2, 3, 4), []int{0, 1, 2}, []int{3, 4})
	wantOf(t, with(5, 3, 4), []int{0}, []int{1}, []int{2}, []int{3, 4})
	wantOf(t, with(6, 0, 5, 1, 4, 2, 3), []int{0, 5}, []int{1, 4}, []int{2, 3})
	wantOf(t, with(7, 0, 6, 1, 5, 2, 6, 3, 5), []int{0, 2, 6}, []int{1, 3, 5}, []int{4})
}

func TestD2FewVertices(t *testing.T) {
	wantOf(t, with(0))
	wantOf(t, api.Graph{E: []api.Edge{}})
	wantOf(t, with(1), []int{0})
	wantOf(t, with(2), []int{0}, []int{1})
	wantOf(t, with(2, 0, 1), []int{0, 1})
	wantOf(t, with(9), singles(9)...)
}

func TestD2InOnePiece(t *testing.T) {
	wantOf(t, with(4, 0, 1, 1, 2, 2, 3), []int{0, 1, 2, 3})
	wantOf(t, with(4, 0, 3, 1, 2, 1, 3), []int{0, 1, 2, 3})
	wantOf(t, with(4, 0, 1, 0, 2, 0, 3, 1, 2, 1, 3, 2, 3), []int{0, 1, 2, 3})
}

// graphOf tells the right graph of those pairs, which rise.
func graphOf(n int, l []pair) api.Graph {
	g := api.Graph{N: n}
	for _, p := range l {
		g.E = append(g.E, api.Edge{A: p.a, B: p.b})
	}
	return g
}

func TestD2Greatest(t *testing.T) {
	wantOf(t, with(api.MaxN), singles(api.MaxN)...)
	last := api.MaxN - 1
	want := singles(last)
	want[0] = []int{0, last}
	wantOf(t, with(api.MaxN, 0, last), want...)

	path := api.Graph{N: api.MaxN}
	for a := range last {
		path.E = append(path.E, api.Edge{A: a, B: a + 1})
	}
	all := make([]int, api.MaxN)
	for a := range all {
		all[a] = a
	}
	wantOf(t, path, all)

	full := graphOf(api.MaxN, allPairs(101)[:api.MaxM])
	wantOf(t, full, slices.Concat([][]int{all[:101]}, singles(api.MaxN)[101:])...)
}

// slowOf walks from each vertex by the edges, until none leads to a new one.
func slowOf(g api.Graph) [][]int {
	reached := newTable(max(g.N, 0))
	for {
		more := false
		for v := range reached {
			for _, e := range g.E {
				if reached[v][e.A] != reached[v][e.B] {
					reached[v][e.A], reached[v][e.B] = true, true
					more = true
				}
			}
		}
		if !more {
			return reached.classes()
		}
	}
}

func TestD2AllSmallGraphs(t *testing.T) {
	for n := range 7 {
		all := allPairs(n)
		for chosen := range 1 << len(all) {
			g := api.Graph{N: n}
			for i, p := range all {
				if chosen>>i&1 == 1 {
					g.E = append(g.E, api.Edge{A: p.a, B: p.b})
				}
			}
			wantOf(t, g, slowOf(g)...)
		}
	}
}

func TestD2NotRight(t *testing.T) {
	for name, g := range map[string]api.Graph{
		"fewer than no vertices":      with(-1),
		"far fewer":                   with(math.MinInt),
		"one vertex too many":         with(api.MaxN + 1),
		"far too many":                with(math.MaxInt),
		"too many, with an edge":      with(api.MaxN+1, 0, 1),
		"one edge too many":           graphOf(101, allPairs(101)[:api.MaxM+1]),
		"the greater first":           with(3, 1, 0),
		"the greater first, later":    with(3, 0, 1, 2, 1),
		"a vertex beside itself":      with(3, 1, 1),
		"below the first vertex":      with(3, -1, 1),
		"the second one below it":     with(3, 0, -1),
		"both below it":               with(3, -2, -1),
		"behind the last vertex":      with(3, 1, 3),
		"both behind it":              with(3, 3, 4),
		"far behind it":               with(3, 0, math.MaxInt),
		"far below":                   with(3, math.MinInt, 1),
		"an edge without vertices":    with(0, 0, 1),
		"an edge of a single vertex":  with(1, 0, 1),
		"the first vertices fall":     with(3, 1, 2, 0, 1),
		"the second ones fall":        with(3, 0, 2, 0, 1),
		"an edge twice":               with(3, 0, 1, 0, 1),
		"twice, turned round":         with(3, 0, 1, 1, 0),
		"twice, others between":       with(3, 0, 1, 0, 2, 0, 1),
		"wrong at the end only":       with(4, 0, 1, 0, 2, 1, 4),
		"vertices enough but for one": with(api.MaxN, 0, api.MaxN),
	} {
		before := slices.Clone(g.E)
		if got := Of(g); len(got) != 0 {
			t.Errorf("%s: Of = %v", name, got)
		}
		if !slices.Equal(g.E, before) {
			t.Errorf("%s: left %v", name, g.E)
		}
	}
}

func TestD2NothingShared(t *testing.T) {
	g := with(6, 0, 4, 1, 2, 2, 5)
	g.E = append(make([]api.Edge, 0, 16), g.E...)
	spare := g.E[len(g.E):cap(g.E)]
	want := [][]int{{0, 4}, {1, 2, 5}, {3}}
	wantOwn(t, Of(g))
	earlier := Of(g)
	spoil(Of(g))
	wantOf(t, g, want...)
	for i := range g.E {
		g.E[i] = api.Edge{A: -7, B: -7}
	}
	if !same(earlier, want) {
		t.Errorf("writing over what was handed in, and over another answer, left %v", earlier)
	}
	if slices.ContainsFunc(spare, func(e api.Edge) bool { return e != api.Edge{} }) {
		t.Errorf("behind the edges stands %v", spare)
	}
}

func FuzzD1D2(f *testing.F) {
	f.Add(4, []byte{2, 0, 0, 2})
	f.Add(12, []byte{11, 0, 0, 11, 3, 10, 10, 3, 2, 2, 1, 9})
	f.Add(-1, []byte{0, 0})
	f.Add(20, []byte("\x01\x02\x02\x03\x03\x04\x13\x12\x12\x11\x11\x01\x14\x00"))
	f.Fuzz(func(t *testing.T, n int, numbers []byte) {
		n %= 24 // the slow part looks at all pairs
		var l []pair
		for i := 0; i+1 < min(len(numbers), 100); i += 2 {
			l = append(l, pair{int(int8(numbers[i])), int(int8(numbers[i+1]))})
		}
		wantJoins(t, max(n, 0), l)
		wantState(t, "New", New(n), newTable(max(n, 0)))
		slow := newTable(max(n, 0))
		edges := slices.DeleteFunc(allPairs(n), func(p pair) bool {
			return !slices.Contains(l, p) && !slices.Contains(l, pair{p.b, p.a})
		})
		for _, p := range l {
			slow.join(p.a, p.b)
		}
		wantOf(t, graphOf(max(n, 0), edges), slow.classes()...)
	})
}
