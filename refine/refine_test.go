package refine_test

import (
	"cmp"
	"fmt"
	"math"
	"reflect"
	"slices"
	"strings"
	"testing"
	"time"

	"sigillary/api"
	"sigillary/arena"
	"sigillary/iso"
	"sigillary/reach"
	"sigillary/refine"
)

func null() api.Scalar         { return api.Scalar{Kind: api.Null} }
func boolean(n int) api.Scalar { return api.Scalar{Kind: api.Bool, N: n} }
func integer(n int) api.Scalar { return api.Scalar{Kind: api.Int, N: n} }
func str(s string) api.Scalar  { return api.Scalar{Kind: api.Str, S: s} }

func one(x api.Scalar) api.Node { return api.Node{Kind: api.One, X: x} }
func seq(kids ...int) api.Node  { return api.Node{Kind: api.Seq, Kids: kids} }

// keyed is a map of some keys, the first one of which is that of the first kid.
func keyed(keys []api.Scalar, kids ...int) api.Node {
	return api.Node{Kind: api.Map, Keys: keys, Kids: kids}
}

func keys(l ...api.Scalar) []api.Scalar { return l }

// texts are Strs, one for each letter.
func texts(letters string) []api.Scalar {
	var l []api.Scalar
	for _, r := range letters {
		l = append(l, str(string(r)))
	}
	return l
}

func graph(root int, l ...api.Node) api.Graph { return api.Graph{Root: root, L: l} }

// orderByRule is chapter 6's: by kind, then number, then text.
func orderByRule(a, b api.Scalar) int {
	return cmp.Or(cmp.Compare(a.Kind, b.Kind), cmp.Compare(a.N, b.N), strings.Compare(a.S, b.S))
}

// rises is a right graph of the same nodes, whose maps' keys rise, with their kids.
func rises(g api.Graph) api.Graph {
	h := filled(g)
	for i := range h.L {
		x := &h.L[i]
		order := upTo(len(x.Keys))
		slices.SortFunc(order, func(a, b int) int { return orderByRule(x.Keys[a], x.Keys[b]) })
		for k, at := range order {
			x.Keys[k], x.Kids[k] = g.L[i].Keys[at], g.L[i].Kids[at]
		}
	}
	return h
}

// filled is a graph whose lists are none nil, in memory of its own.
func filled(g api.Graph) api.Graph {
	l := []api.Node{}
	for _, x := range g.L {
		l = append(l, api.Node{Kind: x.Kind, X: x.X, Keys: append([]api.Scalar{}, x.Keys...), Kids: append([]int{}, x.Kids...)})
	}
	return api.Graph{Root: g.Root, L: l}
}

// upTo are the numbers from 0 to n-1.
func upTo(n int) []int {
	l := make([]int, n)
	for i := range l {
		l[i] = i
	}
	return l
}

func isPlace(i int, g api.Graph) bool { return 0 <= i && i < len(g.L) }

// differ tells whether two nodes, whose keys rise, differ but for what their kids are.
func differ(x, y api.Node) bool {
	return x.Kind != y.Kind || orderByRule(x.X, y.X) != 0 || len(x.Kids) != len(y.Kids) || slices.CompareFunc(x.Keys, y.Keys, orderByRule) != 0
}

// step is a pair that two nodes come to: by which number, and behind which step, the first one of which is its own.
type step struct {
	at      api.Pair
	n, back int
}

// pathOf is the path to a step, of all that were taken.
func pathOf(l []step, i int) []int {
	var path []int
	for ; l[i].back != i; i = l[i].back {
		path = append(path, l[i].n)
	}
	slices.Reverse(path)
	return path
}

// apartByRule looks at all pairs that two nodes come to, shorter paths first, of these the lower ones, up to the first pair that differs. The graphs' keys rise.
func apartByRule(g, h api.Graph, i, j int) ([]int, bool) {
	l := []step{{api.Pair{A: i, B: j}, 0, 0}}
	come := make([]bool, len(g.L)*len(h.L))
	for next := 0; next < len(l); next++ {
		at := l[next].at
		x, y := g.L[at.A], h.L[at.B]
		if differ(x, y) {
			return pathOf(l, next), true
		}
		for n := range x.Kids {
			kids := api.Pair{A: x.Kids[n], B: y.Kids[n]}
			if !come[kids.A*len(h.L)+kids.B] {
				come[kids.A*len(h.L)+kids.B] = true
				l = append(l, step{kids, n, next})
			}
		}
	}
	return nil, false
}

// classesByRule strikes out pairs of nodes that differ, or of whose kids a pair was struck out, until there is none to strike out.
func classesByRule(g api.Graph) []int {
	r := rises(g)
	n := len(r.L)
	out := make([]bool, n*n)
	isOut := func(i, k int) bool {
		if differ(r.L[i], r.L[k]) {
			return true
		}
		for m, kid := range r.L[i].Kids {
			if out[kid*n+r.L[k].Kids[m]] {
				return true
			}
		}
		return false
	}
	for again := true; again; {
		again = false
		for i := range n {
			for k := range n {
				if !out[i*n+k] && isOut(i, k) {
					out[i*n+k], again = true, true
				}
			}
		}
	}
	var l []int
	count := 0
	for i := range n {
		first := slices.Index(out[i*n:i*n+i+1], false)
		if first == i {
			l = append(l, count)
			count++
		} else {
			l = append(l, l[first])
		}
	}
	return l
}

// told are classes, as they are answered.
type told struct {
	l []int
	e api.Errno
}

func (x told) same(y told) bool { return slices.Equal(x.l, y.l) && x.e == y.e }

func toldByRule(g api.Graph) told {
	if _, e := arena.Check(g); e != api.OK {
		return told{nil, e}
	}
	return told{classesByRule(g), api.OK}
}

func tell(g api.Graph) told {
	l, e := refine.Classes(g)
	return told{l, e}
}

// holds says whether Classes tells what its rule says, and what that is. It ends the test at the first answer that does not: there are many.
func holds(t *testing.T, g api.Graph) told {
	t.Helper()
	got, want := tell(g), toldByRule(g)
	if !got.same(want) {
		t.Fatal(short(g, got, "not", want))
	}
	return got
}

// areClasses says whether that is what Classes tells of a right graph, as its rule says.
func areClasses(t *testing.T, g api.Graph, l ...int) {
	t.Helper()
	want := told{l, api.OK}
	if got := tell(g); !got.same(want) || !toldByRule(g).same(want) {
		t.Error(short(g, got, "not", want))
	}
}

// holdsApart says whether Apart tells of two nodes, both ways round, what its rule says, and what that is.
func holdsApart(t *testing.T, g api.Graph, i, j int) ([]int, bool) {
	t.Helper()
	path, ok := refine.Apart(g, i, j)
	turned, is := refine.Apart(g, j, i)
	var want []int
	apart := false
	if _, e := arena.Check(g); e == api.OK && isPlace(i, g) && isPlace(j, g) {
		r := rises(g)
		want, apart = apartByRule(r, r, i, j)
	}
	if !slices.Equal(path, want) || ok != apart || !slices.Equal(turned, want) || is != apart {
		t.Fatal(short(g, i, j, path, ok, turned, is, "not", want, apart))
	}
	return path, ok
}

// arePart says whether two nodes of a graph come to differ on that path.
func arePart(t *testing.T, g api.Graph, i, j int, path ...int) {
	t.Helper()
	if got, ok := holdsApart(t, g, i, j); !ok || !slices.Equal(got, path) {
		t.Error(short(g, i, j, got, ok, "not", path))
	}
}

// noPart says whether there is no path on which two nodes of a graph come to differ.
func noPart(t *testing.T, g api.Graph, i, j int) {
	t.Helper()
	if got, ok := holdsApart(t, g, i, j); ok || len(got) != 0 {
		t.Error(short(g, i, j, got, ok))
	}
}

type both struct {
	same bool
	e    api.Errno
}

func bothByRule(g, h api.Graph) both {
	for _, x := range []api.Graph{g, h} {
		if _, e := arena.Check(x); e != api.OK {
			return both{false, e}
		}
	}
	_, apart := apartByRule(rises(g), rises(h), g.Root, h.Root)
	return both{!apart, api.OK}
}

func tellBoth(g, h api.Graph) both {
	same, e := refine.Bisim(g, h)
	return both{same, e}
}

// holdsBoth says whether Bisim tells of two graphs what its rule says, and what that is.
func holdsBoth(t *testing.T, g, h api.Graph) both {
	t.Helper()
	got, want := tellBoth(g, h), bothByRule(g, h)
	if got != want {
		t.Fatal(short(g, h, got, "not", want))
	}
	return got
}

// saySame says whether two graphs say the same, and the other way round too; or that they do not.
func saySame(t *testing.T, is bool, g, h api.Graph) {
	t.Helper()
	for range 2 {
		if got := holdsBoth(t, g, h); got != (both{is, api.OK}) {
			t.Error(short(g, h, got))
		}
		g, h = h, g
	}
}

// short is what tells of values, or how that begins.
func short(l ...any) string {
	s := fmt.Sprintf("%v", l)
	return s[:min(len(s), 600)]
}

// chance are numbers that look like it.
type chance uint32

func (c *chance) below(n int) int {
	*c = *c*1664525 + 1013904223
	return int(*c>>8) % n
}

// order is one of the numbers from 0 to n-1.
func (c *chance) order(n int) []int {
	l := make([]int, n)
	for i := range l {
		k := c.below(i + 1)
		l[i], l[k] = l[k], i
	}
	return l
}

// scalars are some of each kind, so that they rise.
func scalars() []api.Scalar {
	return keys(null(), boolean(0), boolean(1), integer(-api.MaxNum), integer(-1), integer(0), integer(9), integer(10), integer(api.MaxNum), str(""), str("10"), str("9"), str("B"), str("a"), str("ab"), str("\u00e9"))
}

// someRight is a right graph of n nodes, whose kids' places are mostly near theirs, if near is so. With few labels many of its nodes say the same.
func someRight(c *chance, n, labels int, near bool) api.Graph {
	all := scalars()
	l := make([]api.Node, n)
	for i := range l {
		label := c.below(labels)
		kids := make([]int, 1+(label+labels)%4)
		for k := range kids {
			kids[k] = c.below(n)
			if near && c.below(8) > 0 {
				kids[k] = min(n-1, i+1+c.below(3))
			}
		}
		switch label % 3 {
		case 0:
			l[i] = seq(kids...)
		case 1:
			var some []api.Scalar
			for number := range kids {
				some = append(some, all[(label+number*5)%len(all)])
			}
			for k, at := range c.order(len(kids)) {
				some[k], some[at] = some[at], some[k]
			}
			l[i] = keyed(some, kids...)
		default:
			l[i] = one(all[label%len(all)])
		}
	}
	return api.Graph{Root: c.below(n), L: l}
}

// someLists are lists of so many kids, whose places are near theirs, but for some nodes, of which all come to be told apart.
func someLists(c *chance, n, kids int) api.Graph {
	g := api.Graph{Root: c.below(n), L: make([]api.Node, n)}
	for i := range g.L {
		x := seq()
		for range kids {
			x.Kids = append(x.Kids, min(n-1, max(0, i-2)+c.below(5)))
		}
		g.L[i] = x
	}
	for range 1 + n/20 {
		g.L[c.below(n)] = []api.Node{seq(), one(null()), keyed(nil)}[c.below(3)]
	}
	return g
}

// moved is a graph that is laid otherwise: its nodes at other places, among some more, and the keys of its maps in another order. The place of each node is told with it.
func moved(c *chance, g api.Graph, more int) (api.Graph, []int) {
	n := len(g.L) + more
	place := c.order(n)
	h := api.Graph{Root: place[g.Root], L: make([]api.Node, n)}
	for i := range h.L {
		h.L[i] = seq(i, c.below(n), c.below(n), c.below(n), c.below(n))
	}
	for i, x := range g.L {
		y := api.Node{Kind: x.Kind, X: x.X}
		order := upTo(len(x.Kids))
		if x.Kind == api.Map {
			order = c.order(len(x.Kids))
		}
		for _, k := range order {
			y.Kids = append(y.Kids, place[x.Kids[k]])
			if x.Kind == api.Map {
				y.Keys = append(y.Keys, x.Keys[k])
			}
		}
		h.L[place[i]] = y
	}
	return h, place[:len(g.L)]
}

// copies is a graph in which each node stands so many times, and each kid's place is that of one of its copies.
func copies(c *chance, g api.Graph, times int) api.Graph {
	n := len(g.L)
	h := api.Graph{Root: g.Root + n*c.below(times)}
	for range times {
		for _, x := range filled(g).L {
			for k := range x.Kids {
				x.Kids[k] += n * c.below(times)
			}
			h.L = append(h.L, x)
		}
	}
	return h
}

// ring are n lists, each of the next one, and of its own first one so many times more.
func ring(n, more int) api.Graph {
	var g api.Graph
	for i := range n {
		x := seq((i + 1) % n)
		for range more {
			x.Kids = append(x.Kids, 0)
		}
		g.L = append(g.L, x)
	}
	return g
}

// chain are n lists, each of the next one, but for the last one, which is empty.
func chain(n int) api.Graph {
	var g api.Graph
	for i := 1; i < n; i++ {
		g.L = append(g.L, seq(i))
	}
	g.L = append(g.L, seq())
	return g
}

// wrongNodes are some that are right in no graph of less than 200 nodes.
func wrongNodes() []api.Node {
	return []api.Node{{Kind: 3}, {Kind: -1}, {Kind: 1 << 32}, one(str("\xff")), one(boolean(2)), one(integer(api.MaxNum + 1)), one(api.Scalar{N: 1}), {Kids: []int{0}}, {Keys: texts("a")}, seq(-1), seq(0, 200), seq(math.MinInt), seq(math.MaxInt), {Kind: api.Seq, X: str("a")}, {Kind: api.Seq, Keys: texts("a")},
		keyed(texts("a")), keyed(nil, 0), keyed(texts("ab"), 0), keyed(texts("a"), 0, 0), keyed(texts("aa"), 0, 0), keyed(texts("aba"), 0, 0, 0), keyed(texts("a"), 200), keyed(texts("a"), -1), keyed(keys(str("\xff")), 0), keyed(keys(api.Scalar{Kind: 4}), 0), {Kind: api.Map, X: boolean(1)}}
}

func TestNumbers(t *testing.T) {
	if api.ErrGraph != 70 || api.ErrLimit != 71 || api.MaxNodes != 200 {
		t.Error(api.ErrGraph, api.ErrLimit, api.MaxNodes)
	}
}

// P10.1: Classes

func TestClassesKnown(t *testing.T) {
	areClasses(t, graph(0, seq(1), seq(0), seq(2), seq()), 0, 0, 0, 1)
	areClasses(t, graph(0, one(null())), 0)
	areClasses(t, graph(0, seq()), 0)
	areClasses(t, graph(0, seq(0)), 0)
	areClasses(t, graph(0, keyed(nil)), 0)
	areClasses(t, graph(0, keyed(texts("ab"), 0, 0)), 0)
	areClasses(t, graph(0, one(null()), one(null())), 0, 0)
	areClasses(t, graph(0, one(null()), one(boolean(0))), 0, 1)
	areClasses(t, graph(0, seq(), keyed(nil), one(null()), keyed(nil), seq()), 0, 1, 2, 1, 0)
	areClasses(t, graph(0, seq(0, 0), seq(0, 1), seq(2, 1), seq(0)), 0, 0, 0, 1)
	// A list of a scalar, and of one that is the same, and of another one.
	a, b := one(str("a")), one(str("b"))
	areClasses(t, graph(0, seq(3), seq(4), seq(5), a, a, b), 0, 0, 1, 2, 2, 3)
	areClasses(t, graph(0, a, b, a, seq(0), seq(1), seq(2)), 0, 1, 0, 2, 3, 2)
	// Kids count in their order, each as often as it is there.
	areClasses(t, graph(0, a, b, seq(0, 1), seq(1, 0), seq(0, 0, 1), seq(0, 1, 1), seq(0, 1)), 0, 1, 2, 3, 4, 5, 2)
	// Two rings, of which one has a way out.
	areClasses(t, graph(0, seq(1), seq(0), seq(3), seq(2)), 0, 0, 0, 0)
	areClasses(t, graph(0, seq(1, 1), seq(0, 0), seq(3, 3), seq(2, 4), a), 0, 0, 1, 2, 3)
}

// TestClassesInOrder: they are numbered in the order of their first nodes, wherever the Root is.
func TestClassesInOrder(t *testing.T) {
	a, b, c := one(str("a")), one(str("b")), one(str("c"))
	for root := range 6 {
		areClasses(t, graph(root, c, a, c, b, a, c), 0, 1, 0, 2, 1, 0)
		areClasses(t, graph(root, seq(5), seq(4), seq(3), a, b, b), 0, 0, 1, 2, 3, 3)
		areClasses(t, graph(root, seq(0), seq(1), b, a, b, a), 0, 0, 1, 2, 1, 2)
	}
	// What was of one class, and is split late, has numbers that are far from each other.
	areClasses(t, graph(0, seq(1), seq(2), a, seq(4), seq(5), b, seq(1), seq(4)), 0, 1, 2, 3, 4, 5, 0, 3)
	r := chance(3)
	for range 300 {
		n := 1 + r.below(30)
		l := make([]api.Node, n)
		var want, met []int
		for i := range l {
			x := r.below(6)
			l[i] = one(integer(x))
			if !slices.Contains(met, x) {
				met = append(met, x)
			}
			want = append(want, slices.Index(met, x))
		}
		areClasses(t, api.Graph{Root: r.below(n), L: l}, want...)
	}
}

// TestClassesOfUnreached: nodes that nothing leads to have classes as others have.
func TestClassesOfUnreached(t *testing.T) {
	a := one(str("a"))
	areClasses(t, graph(0, a, a, seq(0), seq(1), seq(3)), 0, 0, 1, 1, 2)
	areClasses(t, graph(4, a, a, seq(0), seq(1), seq(3)), 0, 0, 1, 1, 2)
	areClasses(t, graph(1, seq(0), a, seq(2), keyed(texts("a"), 1), keyed(texts("a"), 0)), 0, 1, 0, 2, 3)
}

// TestClassesByKeys: maps' kids go by their keys, however they are laid.
func TestClassesByKeys(t *testing.T) {
	a, b := one(str("x")), one(str("y"))
	areClasses(t, graph(0, a, b, keyed(texts("ab"), 0, 1), keyed(texts("ba"), 1, 0), keyed(texts("ba"), 0, 1), keyed(texts("ab"), 1, 0)), 0, 1, 2, 2, 3, 3)
	areClasses(t, graph(0, a, b, keyed(texts("cab"), 0, 1, 1), keyed(texts("abc"), 1, 1, 0), keyed(texts("bca"), 1, 0, 1), keyed(texts("cab"), 1, 1, 0)), 0, 1, 2, 2, 2, 3)
	areClasses(t, graph(0, keyed(texts("ab"), 0, 1), keyed(texts("ba"), 1, 0), keyed(texts("ba"), 2, 2)), 0, 0, 0)
	// Of all kinds, in any order.
	c := chance(7)
	all := scalars()
	for range 50 {
		var g api.Graph
		var want []int
		for i, x := range all {
			g.L, want = append(g.L, one(x)), append(want, i)
		}
		for range 4 {
			var x api.Node
			x.Kind = api.Map
			for _, number := range c.order(len(all)) {
				x.Keys, x.Kids = append(x.Keys, all[number]), append(x.Kids, number)
			}
			g.L, want = append(g.L, x), append(want, len(all))
		}
		areClasses(t, g, want...)
		last := &g.L[len(g.L)-1]
		last.Kids[0], last.Kids[1] = last.Kids[1], last.Kids[0]
		want[len(want)-1]++
		areClasses(t, g, want...)
	}
}

// labelled are nodes of all kinds, no two of which say the same, for a graph that has a node at place 0 and one at 1.
func labelled() []api.Node {
	var l []api.Node
	for _, x := range scalars() {
		l = append(l, one(x), keyed(keys(x), 1))
	}
	for n := range 5 {
		l = append(l, seq([]int{1, 1, 1, 1}[:n:n]...))
	}
	l = append(l, keyed(nil))
	for _, letters := range []string{"ab", "ac", "bc", "abc", "abd", "acd", "bcd", "abcd"} {
		l = append(l, keyed(texts(letters), []int{1, 1, 1, 1}[:len(letters):len(letters)]...))
	}
	l = append(l, keyed(keys(null(), str("")), 1, 1), keyed(keys(integer(1), str("1")), 1, 1), keyed(keys(integer(0), str("1")), 1, 1), keyed(keys(boolean(1), str("1")), 1, 1))
	// Keys whose texts look like those of others.
	for _, s := range []string{"null", "true", "1", "a,b", "a b", "a\nb", "a\"\n\"b", "a\", \"b", "\"a\"", "\\n", "\n", "a\n", "\x00", "1\n2", "a\x00b", "\"", "\\"} {
		l = append(l, keyed(keys(str(s)), 1))
	}
	return append(l, keyed(keys(integer(1), integer(2)), 1, 1), keyed(keys(integer(12)), 1), keyed(keys(integer(1), integer(12)), 1, 1), keyed(keys(integer(11), integer(2)), 1, 1), keyed(keys(integer(1), integer(123)), 1, 1), keyed(keys(integer(11), integer(23)), 1, 1), keyed(keys(integer(-12), integer(3)), 1, 1), keyed(keys(integer(-1), integer(23)), 1, 1), keyed(keys(str("a"), str("b,c")), 1, 1), keyed(keys(str("a,b"), str("c")), 1, 1))
}

// TestEachField: nodes that differ in Kind, X, keys or number of kids are of two classes, others are not.
func TestEachField(t *testing.T) {
	all := labelled()
	leaf := one(str("leaf"))
	for i, x := range all {
		for k, y := range all {
			g := graph(0, x, leaf, y)
			if i == k {
				areClasses(t, g, 0, 1, 0)
				noPart(t, g, 0, 2)
			} else {
				areClasses(t, g, 0, 1, 2)
				arePart(t, g, 0, 2)
			}
			saySame(t, i == k, graph(0, x, leaf), graph(0, y, leaf))
			// At the end of a path.
			g = graph(0, seq(1, 3), leaf, seq(1, 4), x, y)
			if i == k {
				areClasses(t, g, 0, 1, 0, 2, 2)
				noPart(t, g, 0, 2)
			} else {
				areClasses(t, g, 0, 1, 2, 3, 4)
				arePart(t, g, 0, 2, 1)
			}
		}
	}
	// All at once.
	g := graph(0, append([]api.Node{leaf, leaf}, all...)...)
	want := append([]int{0}, upTo(len(all)+1)...)
	areClasses(t, g, want...)
	// Texts' memory, and lists that are nil, are nothing to it.
	areClasses(t, graph(0, one(str("abc")), one(str(strings.Clone("abc"))), keyed(keys(str("abc")), 0), keyed(keys(str(strings.Clone("abc"))), 1)), 0, 0, 1, 1)
	areClasses(t, graph(0, api.Node{Kind: api.Seq}, api.Node{Kind: api.Seq, Keys: []api.Scalar{}, Kids: []int{}}), 0, 0)
	areClasses(t, graph(0, api.Node{Kind: api.Map}, api.Node{Kind: api.Map, Keys: []api.Scalar{}, Kids: []int{}}), 0, 0)
	areClasses(t, graph(0, api.Node{}, api.Node{Keys: []api.Scalar{}, Kids: []int{}}), 0, 0)
}

// TestNumbersOfKids: lists of any two numbers of the same kids.
func TestNumbersOfKids(t *testing.T) {
	for n := range 12 {
		for m := range 12 {
			g := graph(0, seq(make([]int, n)...), seq(make([]int, m)...))
			if n == m {
				areClasses(t, g, 0, 0)
				noPart(t, g, 0, 1)
			} else {
				areClasses(t, g, 0, 1)
				arePart(t, g, 0, 1)
			}
			saySame(t, n == m, g, graph(1, g.L...))
		}
	}
}

// TestChains: a chain's nodes are told apart by its end alone, however far that is.
func TestChains(t *testing.T) {
	for _, n := range []int{1, 2, 3, 10, 64, 127, 128, 129, 130, 199, 200} {
		g := chain(n)
		areClasses(t, g, upTo(n)...)
		for i := 0; i < n; i += 1 + n/9 {
			for _, k := range []int{0, n / 2, n - 1} {
				if i == k {
					noPart(t, g, i, k)
				} else {
					arePart(t, g, i, k, make([]int, n-1-max(i, k))...)
				}
			}
		}
		// A ring has no end.
		areClasses(t, ring(n, 0), make([]int, n)...)
		areClasses(t, ring(n, 2), make([]int, n)...)
		saySame(t, true, ring(n, 1), ring(200, 1))
		saySame(t, false, g, ring(n, 0))
		// Chains are the same from where they are as far from their ends.
		saySame(t, true, chain(200), api.Graph{Root: 0, L: append(chain(200).L[:199:199], seq())})
		if n > 1 {
			saySame(t, false, g, chain(n-1))
			saySame(t, true, api.Graph{Root: 1, L: g.L}, chain(n-1))
		}
	}
}

// TestMarkedRings: those with a mark at each m-th node have m classes.
func TestMarkedRings(t *testing.T) {
	for m := 1; m < 30; m++ {
		for n := m; n <= api.MaxNodes-1; n += m * (1 + 20/m) {
			g := ring(n, 0)
			var want []int
			for i := range n {
				want = append(want, i%m)
				if i%m == m-1 {
					g.L[i].Kids = append(g.L[i].Kids, i)
				}
			}
			areClasses(t, g, want...)
			h := ring(m, 0)
			h.L[m-1].Kids = append(h.L[m-1].Kids, m-1)
			saySame(t, true, g, h)
			h.Root = m / 2
			saySame(t, m == 1, g, h)
			g.Root = n - m + m/2
			saySame(t, true, g, h)
		}
	}
}

// TestManyClasses: kids of more classes than there are bytes, and than have a sign of one.
func TestManyClasses(t *testing.T) {
	const half = api.MaxNodes / 2
	var g api.Graph
	for i := range half {
		g.L = append(g.L, one(integer(i)))
	}
	for i := range half {
		g.L = append(g.L, seq(i, half+(i+1)%half))
	}
	areClasses(t, g, upTo(api.MaxNodes)...)
	for i := range half {
		arePart(t, g, half, half+1+i%(half-1), 0)
	}
	// Two graphs, all of whose nodes differ but for the Roots and the last ones: they say the same just if the Roots' kids are the last ones.
	var many [2]api.Graph
	for i := range many {
		many[i].L = append(many[i].L, seq(0))
		for k := range api.MaxNodes - 2 {
			many[i].L = append(many[i].L, one(integer(k+i*1000)))
		}
		many[i].L = append(many[i].L, one(str("a")))
	}
	for _, i := range []int{1, 2, 55, 100, 127, 128, 143, 198, 199} {
		for k := 1; k < api.MaxNodes; k++ {
			many[0].L[0], many[1].L[0] = seq(i), seq(k)
			if got := tellBoth(many[0], many[1]); got != (both{i == 199 && k == 199, api.OK}) {
				t.Error(i, k, got)
			}
		}
	}
	// All of one graph's lists have two kids that differ from all others'.
	lists := api.Graph{}
	for i := range 128 {
		lists.L = append(lists.L, one(integer(i)))
	}
	for i := 128; i < api.MaxNodes; i++ {
		lists.L = append(lists.L, seq(i-128, i-1))
	}
	areClasses(t, lists, upTo(api.MaxNodes)...)
}

// P10.1: Bisim

func TestBisimKnown(t *testing.T) {
	a, b := one(str("a")), one(str("b"))
	saySame(t, true, graph(0, seq(0)), graph(0, seq(1), seq(0)))
	saySame(t, true, graph(0, seq(1), seq(0)), graph(1, seq(1), seq(2), seq(0)))
	saySame(t, true, graph(0, a), graph(0, a))
	saySame(t, false, graph(0, a), graph(0, b))
	saySame(t, false, graph(0, one(null())), graph(0, seq()))
	saySame(t, false, graph(0, keyed(nil)), graph(0, seq()))
	saySame(t, true, graph(0, seq(1, 1), a), graph(0, seq(1, 2), a, a))
	saySame(t, false, graph(0, seq(1, 1), a), graph(0, seq(1, 2), a, b))
	saySame(t, false, graph(0, seq(1, 2), a, b), graph(0, seq(2, 1), a, b))
	saySame(t, true, graph(0, keyed(texts("ab"), 1, 2), a, b), graph(0, keyed(texts("ba"), 2, 1), a, b))
	saySame(t, false, graph(0, keyed(texts("ab"), 1, 2), a, b), graph(0, keyed(texts("ba"), 1, 2), a, b))
	saySame(t, false, graph(0, keyed(texts("ab"), 1, 2), a, b), graph(0, keyed(texts("ac"), 1, 2), a, b))
	saySame(t, false, graph(0, seq(0)), graph(0, seq(0, 0)))
	saySame(t, false, graph(0, seq(0)), graph(0, seq(1), seq()))
	saySame(t, false, graph(0, seq(0)), graph(0, keyed(texts("a"), 0)))
}

// TestBisimOfRoots: by what the Roots say alone, though other nodes say what they like.
func TestBisimOfRoots(t *testing.T) {
	a, b := one(str("a")), one(str("b"))
	saySame(t, true, graph(1, b, a), graph(0, a, b, b))
	saySame(t, false, graph(0, b, a), graph(0, a, b))
	saySame(t, true, graph(0, b, a), graph(1, a, b))
	saySame(t, true, graph(2, b, a, seq(1)), graph(2, a, b, seq(0)))
	saySame(t, false, graph(2, b, a, seq(1)), graph(2, a, b, seq(1)))
	saySame(t, true, graph(0, seq(1), a, seq(2), b), graph(3, seq(), b, a, seq(2)))
	// Of one graph, from any two of its nodes: just if they are of one class.
	c := chance(41)
	same, apart := 0, 0
	for round := range 200 {
		g := someRight(&c, 1+c.below(12), 1+c.below(5), round%2 == 0)
		classes, _ := refine.Classes(g)
		for i := range g.L {
			for k := range g.L {
				got := holdsBoth(t, graph(i, g.L...), graph(k, g.L...))
				if got.same != (classes[i] == classes[k]) {
					t.Fatal(short(g, i, k, got, classes))
				}
				if !got.same {
					apart++
				} else if i != k {
					same++
				}
			}
		}
	}
	if same < 500 || apart < 2000 {
		t.Error(same, apart)
	}
}

// TestRings: two rings of the same lists say the same, however long they are.
func TestRings(t *testing.T) {
	for n := 1; n < 15; n++ {
		for m := 1; m < 15; m++ {
			for more := range 3 {
				saySame(t, true, ring(n, more), ring(m, more))
				saySame(t, false, ring(n, more), ring(m, more+1))
			}
		}
	}
	saySame(t, true, ring(api.MaxNodes-1, 0), ring(api.MaxNodes, 0))
	// One node that differs is far from both Roots.
	for _, at := range []int{0, 1, 100, 198, 199} {
		h := ring(api.MaxNodes, 0)
		h.L[at].Kids = []int{0, 0}
		saySame(t, false, ring(api.MaxNodes, 0), h)
		saySame(t, false, ring(1, 0), h)
		saySame(t, true, h, h)
	}
	// The paths on which two rings come to differ are longer than either has nodes.
	g, h := ring(197, 0), ring(199, 0)
	g.L[196].Kids, h.L[198].Kids = []int{0, 0}, []int{0, 0}
	saySame(t, false, g, h)
	g.L[196].Kids, h.L[198].Kids = []int{196}, []int{198}
	saySame(t, true, g, h)
}

// TestBisimMoved: graphs that are laid otherwise, and with nodes that stand more than once.
func TestBisimMoved(t *testing.T) {
	c := chance(11)
	changed := 0
	for round := range 1500 {
		n := 1 + c.below(20)
		if round%50 == 0 {
			n = 1 + c.below(65)
		}
		g := someRight(&c, n, 1+c.below(9), round%2 == 0)
		h, _ := moved(&c, copies(&c, g, 1+c.below(3)), c.below(5))
		saySame(t, true, g, h)
		if x := h.L[c.below(len(h.L))]; len(x.Kids) > 0 {
			x.Kids[c.below(len(x.Kids))] = c.below(len(h.L))
		}
		if !holdsBoth(t, g, h).same {
			changed++
		}
	}
	if changed < 150 {
		t.Error("only", changed)
	}
}

// TestBisimIsMutual: all graphs say the same as themselves, and as those that say the same as they, and these as each other.
func TestBisimIsMutual(t *testing.T) {
	c := chance(29)
	var l []api.Graph
	for round := range 40 {
		g := someRight(&c, 1+c.below(4), 1+c.below(3), round%2 == 0)
		l = append(l, g, copies(&c, g, 2), copies(&c, g, 3))
	}
	same := make([][]bool, len(l))
	for i, g := range l {
		for _, h := range l {
			same[i] = append(same[i], tellBoth(g, h).same)
		}
	}
	for i := range l {
		for k := range l {
			if same[i][k] != same[k][i] || i/3 == k/3 && !same[i][k] {
				t.Error(short(l[i], l[k]))
			}
			for m := range l {
				if same[i][k] && same[k][m] && !same[i][m] {
					t.Error(short(l[i], l[k], l[m]))
				}
			}
		}
	}
}

// P10.2: Apart

func TestApartKnown(t *testing.T) {
	a, b := one(str("a")), one(str("b"))
	g := graph(0, seq(1, 2), a, b, seq(2, 2), seq(1, 1), seq(0, 3), seq(0, 4), seq(3, 0), seq(), a)
	arePart(t, g, 0, 1)
	arePart(t, g, 1, 2)
	arePart(t, g, 0, 3, 0)
	arePart(t, g, 0, 4, 1)
	arePart(t, g, 3, 4, 0)
	arePart(t, g, 5, 6, 1, 0)
	arePart(t, g, 5, 7, 0, 0)
	arePart(t, g, 0, 5, 0)
	arePart(t, g, 0, 8)
	noPart(t, g, 1, 9)
	for i := range g.L {
		noPart(t, g, i, i)
	}
	noPart(t, graph(0, seq(1), seq(0), seq(2)), 0, 2)
	// From nodes that nothing leads to, whatever the Root is.
	for root := range 5 {
		arePart(t, graph(root, a, b, seq(0), seq(1), a), 2, 3, 0)
		noPart(t, graph(root, a, b, seq(0), seq(4), a), 2, 3)
	}
}

// TestApartShortest: the fewest numbers, though a longer path has lower ones.
func TestApartShortest(t *testing.T) {
	a, b := one(str("a")), one(str("b"))
	// By 0, 0 they differ, and by 1.
	arePart(t, graph(0, seq(2, 4), seq(3, 5), seq(4), seq(5), a, b), 0, 1, 1)
	arePart(t, graph(0, seq(2, 2, 2, 4), seq(3, 3, 3, 5), seq(4), seq(5), a, b), 0, 1, 3)
	// By 0, 0, 0 and by 9, 9.
	many := func(kid, last int) api.Node { return seq(append(slices.Repeat([]int{kid}, 9), last)...) }
	arePart(t, graph(0, many(2, 4), many(3, 5), seq(6), seq(7), many(8, 8), many(8, 9), seq(8), seq(9), a, b), 0, 1, 9, 9)
	// Numbers of two digits are behind those of one.
	for n := range 40 {
		x, y := seq(slices.Repeat([]int{2}, 40)...), seq(slices.Repeat([]int{2}, 40)...)
		for k := n; k < 40; k += 1 + n%7 {
			y.Kids[k] = 3
		}
		arePart(t, graph(0, x, y, a, b), 0, 1, n)
	}
}

// TestApartFirst: of those of the fewest numbers the first one, number by number.
func TestApartFirst(t *testing.T) {
	a, b := one(str("a")), one(str("b"))
	// By 0, 1 and by 1, 0.
	arePart(t, graph(0, seq(2, 2), seq(3, 4), seq(5, 5), seq(5, 6), seq(6, 5), a, b), 0, 1, 0, 1)
	arePart(t, graph(0, seq(2, 2), seq(4, 3), seq(5, 5), seq(5, 6), seq(6, 5), a, b), 0, 1, 0, 0)
	arePart(t, graph(0, seq(2, 2), seq(2, 3), seq(5, 5), seq(5, 6), seq(6, 5), a, b), 0, 1, 1, 1)
	// The first number under which kids say otherwise leads too far.
	arePart(t, graph(0, seq(2, 4, 4), seq(3, 5, 5), seq(4), seq(5), seq(6), seq(7), a, b), 0, 1, 1, 0)
	// The kids of maps are numbered as their keys rise.
	arePart(t, graph(0, keyed(texts("cab"), 3, 2, 2), keyed(texts("cab"), 2, 2, 2), a, b), 0, 1, 2)
	arePart(t, graph(0, keyed(texts("cab"), 2, 3, 2), keyed(texts("cab"), 2, 2, 2), a, b), 0, 1, 0)
	arePart(t, graph(0, keyed(texts("cab"), 2, 2, 3), keyed(texts("abc"), 2, 2, 2), a, b), 0, 1, 1)
	arePart(t, graph(0, keyed(texts("ba"), 3, 2), keyed(texts("ab"), 3, 2), a, b), 0, 1, 0)
	noPart(t, graph(0, keyed(texts("ba"), 3, 2), keyed(texts("ab"), 2, 3), a, b), 0, 1)
	noPart(t, graph(0, keyed(keys(str("1"), integer(2), boolean(1)), 2, 3, 2), keyed(keys(boolean(1), str("1"), integer(2)), 2, 2, 3), a, b), 0, 1)
	arePart(t, graph(0, keyed(keys(str("1"), integer(2), boolean(1)), 2, 3, 2), keyed(keys(boolean(1), str("1"), integer(2)), 2, 2, 2), a, b), 0, 1, 1)
}

// TestApartRings: two nodes of a ring differ where the first of them comes to the mark.
func TestApartRings(t *testing.T) {
	for _, n := range []int{1, 2, 3, 7, 50, 200} {
		g := ring(n, 0)
		g.L[n-1].Kids = []int{0, 0}
		for i := 0; i < n; i += 1 + n/12 {
			for k := 0; k < n; k += 1 + n/12 {
				if i == k {
					noPart(t, g, i, k)
				} else {
					arePart(t, g, i, k, make([]int, n-1-max(i, k))...)
				}
			}
		}
	}
}

// TestApartNoNode: there is no path from what is no node's place.
func TestApartNoNode(t *testing.T) {
	places := []int{math.MinInt, -1 << 32, -200, -2, -1, 4, 5, 199, 200, 256, 1 << 32, math.MaxInt}
	g := graph(0, one(str("a")), one(str("b")), seq(0), seq(1))
	for _, i := range places {
		for k := range g.L {
			noPart(t, g, i, k)
		}
		for _, k := range places {
			noPart(t, g, i, k)
		}
	}
	arePart(t, g, 3, 2, 0)
	for n := 1; n < 5; n++ {
		noPart(t, api.Graph{L: make([]api.Node, n)}, n, n)
		noPart(t, api.Graph{L: make([]api.Node, n)}, n-1, n)
		noPart(t, api.Graph{L: make([]api.Node, n)}, -1, n-1)
	}
}

// P10.1 to P10.3: all small graphs

// eachNode are some that are right among n.
func eachNode(n int) []api.Node {
	l := []api.Node{one(null()), one(str("a")), seq(), keyed(nil)}
	for i := range n {
		l = append(l, seq(i), keyed(texts("a"), i))
		for k := range n {
			l = append(l, seq(i, k), keyed(texts("ab"), i, k), keyed(texts("ba"), i, k))
		}
	}
	return l
}

// eachSmall are those of at most two nodes, and any Root.
func eachSmall() []api.Graph {
	var l []api.Graph
	for _, a := range eachNode(1) {
		l = append(l, graph(0, a))
	}
	for root := range 2 {
		for _, a := range eachNode(2) {
			for _, b := range eachNode(2) {
				l = append(l, graph(root, a, b))
			}
		}
	}
	return l
}

// holdsAll says whether all that is told of a graph alone is what the rules say, and how its nodes' paths end: each with each, or some with some, if there are many. It tells how many classes there are, and the longest path.
func holdsAll(t *testing.T, g api.Graph) (count, longest int) {
	t.Helper()
	classes := holds(t, g).l
	step := 1 + len(g.L)/15
	for i := 0; i < len(g.L); i += step {
		for k := i % step; k <= i; k += step {
			path, ok := holdsApart(t, g, i, k)
			if ok != (classes[i] != classes[k]) {
				t.Fatal(short(g, i, k, path, ok, classes))
			}
			if ok {
				endsApart(t, g, i, k, path)
			}
			longest = max(longest, len(path))
		}
	}
	return slices.Max(classes) + 1, longest
}

// endsApart says whether a path leads from two nodes to two that differ, and is at no shorter one there.
func endsApart(t *testing.T, g api.Graph, i, k int, path []int) {
	t.Helper()
	r := rises(g)
	for n := range len(path) + 1 {
		x, isX := reach.At(graph(i, g.L...), path[:n])
		y, isY := reach.At(graph(k, g.L...), path[:n])
		if !isX || !isY || differ(r.L[x], r.L[y]) != (n == len(path)) {
			t.Fatal(short(g, i, k, path, n))
		}
	}
}

// TestAllSmall: each graph, and each with each; they say the same just if their pairs fit, and so if they are alike.
func TestAllSmall(t *testing.T) {
	l := eachSmall()
	for _, g := range l {
		holdsAll(t, g)
	}
	same, alike := 0, 0
	for _, g := range l {
		for _, h := range l {
			got := holdsBoth(t, g, h)
			_, fit, _ := iso.Pairs(g, h)
			is, _ := iso.Alike(g, h)
			if got.same != fit || is && !got.same {
				t.Fatal(short(g, h, got, fit, is))
			}
			if got.same {
				same++
			}
			if is {
				alike++
			}
		}
	}
	if alike < len(l) || same < alike+len(l) {
		t.Error(len(l), same, alike)
	}
}

// TestAllOfThree: all graphs of three nodes, each a scalar or a list of at most two.
func TestAllOfThree(t *testing.T) {
	nodes := []api.Node{one(null()), seq()}
	for i := range 3 {
		nodes = append(nodes, seq(i))
		for k := range 3 {
			nodes = append(nodes, seq(i, k))
		}
	}
	for _, a := range nodes {
		for _, b := range nodes {
			for _, c := range nodes {
				holdsAll(t, graph(0, a, b, c))
			}
		}
	}
}

// TestSomeLarge: of many nodes.
func TestSomeLarge(t *testing.T) {
	c := chance(5)
	split, merged, far := 0, 0, 0
	for round := range 900 {
		n := 1 + c.below(20)
		if round%60 == 0 {
			n = 1 + c.below(120)
		}
		g := someRight(&c, n, 1+c.below(7), round%2 == 0)
		if round%3 == 0 {
			g = someLists(&c, n, 1+c.below(3))
		}
		if round%5 == 0 && n < 60 {
			g = copies(&c, g, 2)
		}
		count, longest := holdsAll(t, g)
		if count < len(g.L) {
			merged++
		}
		if count > 7 {
			split++
		}
		if longest > 4 {
			far++
		}
	}
	if split < 100 || merged < 300 || far < 30 {
		t.Error(split, merged, far)
	}
}

// TestClassesMoved: the classes of nodes that are laid elsewhere are the same, but for their numbers.
func TestClassesMoved(t *testing.T) {
	c := chance(17)
	for round := range 1000 {
		g := someRight(&c, 1+c.below(25), 1+c.below(9), round%2 == 0)
		h, place := moved(&c, g, c.below(4))
		a, b := holds(t, g).l, holds(t, h).l
		for i := range a {
			for k := range a {
				if (a[i] == a[k]) != (b[place[i]] == b[place[k]]) {
					t.Fatal(short(g, h, a, b))
				}
			}
		}
	}
}

// P10.3

// TestAlikeSaysTheSame: graphs that are alike say the same; of those that say the same not all are alike.
func TestAlikeSaysTheSame(t *testing.T) {
	c := chance(13)
	unlike := 0
	for round := range 1000 {
		g := someRight(&c, 1+c.below(15), 1+c.below(9), round%2 == 0)
		h, _ := moved(&c, g, c.below(3))
		tidy, _ := reach.Tidy(g)
		saySame(t, true, g, h)
		saySame(t, true, g, tidy)
		k := copies(&c, g, 2)
		saySame(t, true, h, k)
		if alike, _ := iso.Alike(h, k); !alike {
			unlike++
		}
	}
	if unlike < 100 {
		t.Error("only", unlike)
	}
}

// TestSameAtEachPath: what says the same has the same at the end of each path, and no other paths.
func TestSameAtEachPath(t *testing.T) {
	c := chance(19)
	ends := 0
	for round := range 400 {
		g := someRight(&c, 1+c.below(8), 1+c.below(7), round%2 == 0)
		h := copies(&c, g, 3)
		saySame(t, true, g, h)
		x, y := rises(g), rises(h)
		for range 60 {
			var path []int
			for range c.below(8) {
				path = append(path, c.below(4)-c.below(2)/2)
			}
			i, is := reach.At(g, path)
			k, was := reach.At(h, path)
			if is != was || is && differ(x.L[i], y.L[k]) {
				t.Fatal(short(g, h, path))
			}
			if is && len(path) > 2 {
				ends++
			}
		}
	}
	if ends < 1000 {
		t.Error("only", ends)
	}
}

// P10.1, P10.2: what is not right

// isRefused says whether that error is told of a graph, alone or with a right one, and nothing beside it.
func isRefused(t *testing.T, e api.Errno, g api.Graph) {
	t.Helper()
	right := graph(1, one(null()), keyed(texts("ab"), 0, 1))
	if got := tell(g); got.e != e || len(got.l) != 0 {
		t.Error(short(g, got, "not", e))
	}
	for _, pair := range [][2]api.Graph{{g, right}, {right, g}, {g, g}} {
		if got := tellBoth(pair[0], pair[1]); got != (both{false, e}) {
			t.Error(short(pair, got, "not", e))
		}
	}
	for i := -1; i < min(len(g.L)+1, 4); i++ {
		for k := -1; k < min(len(g.L)+1, 4); k++ {
			if path, ok := refine.Apart(g, i, k); ok || len(path) != 0 {
				t.Error(short(g, i, k, path, ok))
			}
		}
	}
}

// TestWrongNode: wherever it stands, walked to or not.
func TestWrongNode(t *testing.T) {
	isRefused(t, api.ErrGraph, api.Graph{})
	for _, x := range wrongNodes() {
		for n := range 4 {
			for place := range n + 1 {
				for root := range n + 1 {
					l := make([]api.Node, n)
					for i := range l {
						l[i] = seq(0, n)
					}
					isRefused(t, api.ErrGraph, graph(root, slices.Insert(l, place, x)...))
					isRefused(t, api.ErrGraph, graph(root, slices.Insert(make([]api.Node, n), place, x)...))
				}
			}
		}
	}
}

func TestWrongRoot(t *testing.T) {
	for n := range 5 {
		for _, root := range []int{math.MinInt, -1 << 32, -n - 1, -2, -1, n, n + 1, 200, 256, 1 << 32, math.MaxInt} {
			isRefused(t, api.ErrGraph, api.Graph{Root: root, L: make([]api.Node, n)})
		}
	}
}

// TestLimit: more nodes than are right are told, of the first graph first.
func TestLimit(t *testing.T) {
	right, wrong := graph(0, one(null())), graph(0, seq(-1))
	refused := func(e api.Errno, g, h api.Graph) {
		t.Helper()
		if got := tellBoth(g, h); got != (both{false, e}) {
			t.Error(short(got, "not", e))
		}
	}
	for _, n := range []int{201, 202, 255, 256, 257, 456, 1 << 16} {
		for _, root := range []int{0, n - 1, n, -1, math.MaxInt} {
			g := api.Graph{Root: root, L: make([]api.Node, n)}
			isRefused(t, api.ErrLimit, g)
			refused(api.ErrLimit, g, right)
			refused(api.ErrLimit, right, g)
			refused(api.ErrLimit, g, wrong)
			refused(api.ErrGraph, wrong, g)
			refused(api.ErrGraph, api.Graph{}, g)
			refused(api.ErrLimit, g, api.Graph{})
			g.L[0], g.L[n-1] = seq(-1), api.Node{Kind: 3}
			isRefused(t, api.ErrLimit, g)
		}
	}
	for n := 195; n <= api.MaxNodes; n++ {
		g := api.Graph{Root: n - 1, L: make([]api.Node, n)}
		areClasses(t, g, make([]int, n)...)
		saySame(t, true, g, right)
		saySame(t, true, g, g)
		noPart(t, g, 0, n-1)
		g.L[n-1] = seq(n-1, 0)
		arePart(t, g, 0, n-1)
	}
}

// R5: long lists, and long texts

// TestLong: nodes with very many kids, and long texts.
func TestLong(t *testing.T) {
	const n = 1 << 16
	long := strings.Repeat("a", 1<<20)
	kids, l := make([]int, n), make([]api.Scalar, n)
	for i := range n {
		kids[i], l[i] = i%3, integer(n-i)
	}
	turned := slices.Clone(kids)
	slices.Reverse(turned)
	backward := slices.Clone(l)
	slices.Reverse(backward)
	g := graph(0, seq(kids...), keyed(l, kids...), one(str(long)), seq(slices.Clone(kids)...), keyed(backward, turned...), one(str(strings.Clone(long))))
	areClasses(t, g, 0, 1, 2, 0, 1, 2)
	noPart(t, g, 0, 3)
	noPart(t, g, 1, 4)
	saySame(t, true, g, graph(3, g.L...))
	// The last kid of the list, and the first key of the map, are others.
	h := filled(g)
	h.L[3].Kids[n-1] = (kids[n-1] + 1) % 3
	areClasses(t, h, 0, 1, 2, 3, 1, 2)
	arePart(t, h, 0, 3, n-1)
	saySame(t, false, h, graph(3, h.L...))
	h = filled(g)
	h.L[4].Keys[0] = integer(n + 1)
	areClasses(t, h, 0, 1, 2, 0, 3, 2)
	arePart(t, h, 1, 4)
	h = filled(g)
	h.L[5].X.S = long[1:] + "b"
	areClasses(t, h, 0, 1, 2, 0, 1, 3)
	arePart(t, h, 2, 5)
}

// TestNotSlow: many rounds, of nodes with many kids.
func TestNotSlow(t *testing.T) {
	const many = 4000
	var g api.Graph
	for i := range api.MaxNodes - 1 {
		g.L = append(g.L, seq(slices.Repeat([]int{i + 1}, many)...))
	}
	g.L = append(g.L, seq())
	begin := time.Now()
	if l, e := refine.Classes(g); !slices.Equal(l, upTo(api.MaxNodes)) || e != api.OK {
		t.Error(l, e)
	}
	if path, ok := refine.Apart(g, 0, 1); !slices.Equal(path, make([]int, api.MaxNodes-2)) || !ok {
		t.Error(path, ok)
	}
	if same, e := refine.Bisim(g, g); !same || e != api.OK {
		t.Error(same, e)
	}
	// Half a second is usual.
	if took := time.Since(begin); took > time.Minute {
		t.Error(took)
	}
}

// R3

// TestNothingIsWritten: neither into lists that are handed in, nor into their spare room.
func TestNothingIsWritten(t *testing.T) {
	letters := texts("edcbaz")
	kids := []int{1, 0, 2, 1, 0, 77}
	for n := range len(kids) {
		nodes := []api.Node{{Kind: api.Map, Keys: letters[:n], Kids: kids[:n]}, {Kind: api.Seq, Kids: kids[:n]}, one(str("a")), {Kind: 9}}
		old := filled(api.Graph{L: nodes})
		for m := range len(nodes) + 1 {
			for root := range 3 {
				g := api.Graph{Root: root, L: nodes[:m]}
				l, _ := refine.Classes(g)
				clear(l)
				_ = append(l, 5, 5, 5)
				holds(t, g)
				for other := range 3 {
					holdsBoth(t, g, api.Graph{Root: other, L: nodes[:m]})
					path, _ := refine.Apart(g, root, other)
					clear(path)
					_ = append(path, 5, 5, 5)
					holdsApart(t, g, root, other)
				}
			}
		}
		if !reflect.DeepEqual(old, filled(api.Graph{L: nodes})) || !slices.Equal(letters, texts("edcbaz")) || !slices.Equal(kids, []int{1, 0, 2, 1, 0, 77}) {
			t.Fatal(n, nodes, letters, kids)
		}
	}
}

// TestAnswersAreNewMemory: no two answers share any, spare room neither.
func TestAnswersAreNewMemory(t *testing.T) {
	met := map[*int]bool{}
	isNew := func(l []int) {
		t.Helper()
		for i := range l[:cap(l)] {
			at := &l[:cap(l)][i]
			if met[at] {
				t.Fatal("old memory")
			}
			met[at] = true
		}
	}
	for range 3 {
		for n := 1; n < 40; n++ {
			g := chain(n)
			for i := range g.L[:n-1] {
				isNew(g.L[i].Kids)
			}
			l, _ := refine.Classes(g)
			isNew(l)
			l, _ = refine.Classes(ring(n, 0))
			isNew(l)
			path, _ := refine.Apart(g, 0, n/2)
			isNew(path)
		}
	}
}

// TestNothingIsKept: what is handed in may be changed, and answers stay as they are.
func TestNothingIsKept(t *testing.T) {
	g := graph(0, keyed(texts("ba"), 1, 2), seq(0), one(str("x")), keyed(texts("ab"), 2, 1))
	first, _ := refine.Classes(g)
	areClasses(t, g, 0, 1, 2, 0)
	noPart(t, g, 0, 3)
	g.L[0].Kids[0] = 2
	areClasses(t, g, 0, 1, 2, 3)
	path, _ := refine.Apart(g, 0, 3)
	arePart(t, g, 0, 3, 1)
	g.L[0].Keys[1] = str("c")
	arePart(t, g, 0, 3)
	saySame(t, false, g, graph(3, g.L...))
	g.L[3].Keys[0], g.L[3].Kids[1] = str("c"), 2
	noPart(t, g, 0, 3)
	saySame(t, true, g, graph(3, g.L...))
	if !slices.Equal(first, []int{0, 1, 2, 0}) || !slices.Equal(path, []int{1}) {
		t.Error(first, path)
	}
}

// R1, R4

// someAny is a graph of any fields, right or not.
func someAny(c *chance) api.Graph {
	kinds := []int{math.MinInt, -1, 3, 256, 1 << 32, math.MaxInt}
	places := []int{math.MinInt, -1 << 32, -2, -1, 0, 1, 2, 3, 4, 5, 256, 1 << 32, math.MaxInt}
	some := append(scalars(), str("ÿ"), api.Scalar{Kind: 9}, api.Scalar{Kind: -1}, integer(math.MinInt))
	n := c.below(5)
	g := api.Graph{Root: c.below(max(n, 1)), L: make([]api.Node, n)}
	if c.below(9) == 0 {
		g.Root = places[c.below(len(places))]
	}
	for i := range g.L {
		x := &g.L[i]
		x.Kind = c.below(3)
		if c.below(16) == 0 {
			x.Kind = kinds[c.below(len(kinds))]
		}
		if x.Kind == api.One || c.below(16) == 0 {
			x.X = some[c.below(len(some))]
		}
		for range c.below(3) {
			kid := c.below(n)
			if c.below(16) == 0 {
				kid = places[c.below(len(places))]
			}
			if x.Kind != api.One || c.below(9) == 0 {
				x.Kids = append(x.Kids, kid)
			}
			if x.Kind == api.Map || c.below(9) == 0 {
				x.Keys = append(x.Keys, some[c.below(len(some))])
			}
		}
	}
	return g
}

func TestAnyGraphs(t *testing.T) {
	c := chance(3)
	right, apart := 0, 0
	for range 40000 {
		g, h := someAny(&c), someAny(&c)
		holds(t, g)
		if holdsBoth(t, g, h).e == api.OK {
			right++
		}
		if _, ok := holdsApart(t, g, c.below(7)-1, c.below(7)-1); ok {
			apart++
		}
	}
	if right < 3000 || apart < 500 {
		t.Error(right, apart)
	}
}

// TestSameAnswersAgain: what is answered hangs on nothing else.
func TestSameAnswersAgain(t *testing.T) {
	c := chance(23)
	var graphs []api.Graph
	for range 150 {
		g := someRight(&c, 1+c.below(20), 1+c.below(5), true)
		h, _ := moved(&c, g, 1)
		graphs = append(graphs, g, h)
	}
	for i, x := range wrongNodes() {
		graphs = append(graphs, graph(i%2, x, one(null())))
	}
	var first []string
	for round := range 4 {
		for i, g := range graphs {
			path, ok := refine.Apart(g, 0, len(g.L)-1)
			got := fmt.Sprint(tell(g), tellBoth(g, graphs[(i+1)%len(graphs)]), path, ok, i)
			if round == 0 {
				first = append(first, got)
			} else if got != first[i] {
				t.Error(short(g, got, "not", first[i]))
			}
		}
	}
}
