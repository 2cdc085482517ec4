package iso_test

import (
	"cmp"
	"fmt"
	"math"
	"reflect"
	"slices"
	"strconv"
	"strings"
	"testing"

	"sigillary/api"
	"sigillary/arena"
	"sigillary/iso"
	"sigillary/reach"
)

func null() api.Scalar         { return api.Scalar{Kind: api.Null} }
func boolean(n int) api.Scalar { return api.Scalar{Kind: api.Bool, N: n} }
func integer(n int) api.Scalar { return api.Scalar{Kind: api.Int, N: n} }
func str(s string) api.Scalar  { return api.Scalar{Kind: api.Str, S: s} }

func one(x api.Scalar) api.Node { return api.Node{Kind: api.One, X: x} }
func seq(kids ...int) api.Node  { return api.Node{Kind: api.Seq, Kids: kids} }

// keyed is a map of some keys, the first one of which is that of the first kid.
func keyed(keys []api.Scalar, kids ...int) api.Node {
	return api.Node{Kind: api.Map, Keys: keys, Kids: kids}
}

func keys(l ...api.Scalar) []api.Scalar { return l }

// texts are Strs, one for each letter.
func texts(letters string) []api.Scalar {
	var l []api.Scalar
	for _, r := range letters {
		l = append(l, str(string(r)))
	}
	return l
}

func graph(root int, l ...api.Node) api.Graph { return api.Graph{Root: root, L: l} }

// pairs are those of some places: of the first two, the next two, and so on.
func pairs(places ...int) []api.Pair {
	var l []api.Pair
	for i := 0; i < len(places); i += 2 {
		l = append(l, api.Pair{A: places[i], B: places[i+1]})
	}
	return l
}

// orderByRule is chapter 6's: by kind, then number, then text.
func orderByRule(a, b api.Scalar) int {
	return cmp.Or(cmp.Compare(a.Kind, b.Kind), cmp.Compare(a.N, b.N), strings.Compare(a.S, b.S))
}

// rises is a right graph of the same nodes, whose maps' keys rise, with their kids.
func rises(g api.Graph) api.Graph {
	h := filled(g)
	for i := range h.L {
		x := &h.L[i]
		order := make([]int, len(x.Keys))
		for k := range order {
			order[k] = k
		}
		slices.SortFunc(order, func(a, b int) int { return orderByRule(x.Keys[a], x.Keys[b]) })
		for k, at := range order {
			x.Keys[k], x.Kids[k] = g.L[i].Keys[at], g.L[i].Kids[at]
		}
	}
	return h
}

// filled is a graph whose lists are none nil, in memory of its own.
func filled(g api.Graph) api.Graph {
	l := []api.Node{}
	for _, x := range g.L {
		l = append(l, api.Node{Kind: x.Kind, X: x.X, Keys: append([]api.Scalar{}, x.Keys...), Kids: append([]int{}, x.Kids...)})
	}
	return api.Graph{Root: g.Root, L: l}
}

// told is what both calls answer of two graphs.
type told struct {
	l     []api.Pair
	fit   bool
	alike bool
	e     api.Errno
}

func (x told) same(y told) bool {
	return slices.Equal(x.l, y.l) && x.fit == y.fit && x.alike == y.alike && x.e == y.e
}

// together walks through two right graphs whose keys rise.
type together struct {
	g, h api.Graph
	come []bool // for each place of the first, all of the second
	l    []api.Pair
}

// walk walks to a pair, and from it, unless it was come to; it tells whether all that is come to fits.
func (w *together) walk(p api.Pair) bool {
	at := p.A*len(w.h.L) + p.B
	if w.come[at] {
		return true
	}
	w.come[at] = true
	w.l = append(w.l, p)
	x, y := w.g.L[p.A], w.h.L[p.B]
	if x.Kind != y.Kind || orderByRule(x.X, y.X) != 0 || len(x.Kids) != len(y.Kids) || slices.CompareFunc(x.Keys, y.Keys, orderByRule) != 0 {
		return false
	}
	for i := range x.Kids {
		if !w.walk(api.Pair{A: x.Kids[i], B: y.Kids[i]}) {
			return false
		}
	}
	return true
}

// isOneToOne tells whether no node of either graph is in two pairs.
func isOneToOne(l []api.Pair) bool {
	var a, b [api.MaxNodes]int
	for _, p := range l {
		a[p.A]++
		b[p.B]++
	}
	return slices.Max(a[:]) <= 1 && slices.Max(b[:]) <= 1
}

func toldByRule(g, h api.Graph) told {
	for _, x := range []api.Graph{g, h} {
		if _, e := arena.Check(x); e != api.OK {
			return told{e: e}
		}
	}
	w := &together{g: rises(g), h: rises(h), come: make([]bool, len(g.L)*len(h.L))}
	fit := w.walk(api.Pair{A: g.Root, B: h.Root})
	return told{w.l, fit, fit && isOneToOne(w.l), api.OK}
}

func tell(t *testing.T, g, h api.Graph) told {
	t.Helper()
	l, fit, e := iso.Pairs(g, h)
	alike, f := iso.Alike(g, h)
	if e != f {
		t.Error(short(g, h, "Pairs tells", e, "Alike", f))
	}
	return told{l, fit, alike, e}
}

// holds says whether both calls answer of two graphs what their rules say, and what that is. It ends the test at the first ones that do not: there are many.
func holds(t *testing.T, g, h api.Graph) told {
	t.Helper()
	got, want := tell(t, g, h), toldByRule(g, h)
	if !got.same(want) {
		t.Fatal(short(g, h, got, "not", want))
	}
	return got
}

// turned are pairs of the same places, of the second graph and the first one.
func turned(l []api.Pair) []api.Pair {
	var out []api.Pair
	for _, p := range l {
		out = append(out, api.Pair{A: p.B, B: p.A})
	}
	return out
}

// isTold says whether that is what both calls tell of two right graphs, and of the second and the first one, as their rules say.
func isTold(t *testing.T, g, h api.Graph, fit, alike bool, l []api.Pair) {
	t.Helper()
	want := told{l, fit, alike, api.OK}
	if got := tell(t, g, h); !got.same(want) || !toldByRule(g, h).same(want) {
		t.Error(short(g, h, got, "not", want))
	}
	want.l = turned(l)
	if got := tell(t, h, g); !got.same(want) {
		t.Error(short(h, g, got, "not", want))
	}
}

// areAlike says whether two graphs are alike, with these pairs.
func areAlike(t *testing.T, g, h api.Graph, places ...int) {
	t.Helper()
	isTold(t, g, h, true, true, pairs(places...))
}

// justFit says whether two graphs' pairs are these and fit, but they are not alike.
func justFit(t *testing.T, g, h api.Graph, places ...int) {
	t.Helper()
	isTold(t, g, h, true, false, pairs(places...))
}

// areUnfit says whether two graphs' pairs are these, the last one of which does not fit.
func areUnfit(t *testing.T, g, h api.Graph, places ...int) {
	t.Helper()
	isTold(t, g, h, false, false, pairs(places...))
}

// isRefused says whether both calls tell of that error, and nothing beside it.
func isRefused(t *testing.T, e api.Errno, g, h api.Graph) {
	t.Helper()
	if got := tell(t, g, h); !got.same(told{e: e}) || len(got.l) != 0 {
		t.Error(short(g, h, got, "not", e))
	}
}

// short is what tells of values, or how that begins.
func short(l ...any) string {
	s := fmt.Sprintf("%v", l)
	return s[:min(len(s), 600)]
}

// chance are numbers that look like it.
type chance uint32

func (c *chance) below(n int) int {
	*c = *c*1664525 + 1013904223
	return int(*c>>8) % n
}

// order is one of the numbers from 0 to n-1.
func (c *chance) order(n int) []int {
	l := make([]int, n)
	for i := range l {
		k := c.below(i + 1)
		l[i], l[k] = l[k], i
	}
	return l
}

// scalars are some of each kind, so that they rise.
func scalars() []api.Scalar {
	return keys(null(), boolean(0), boolean(1), integer(-api.MaxNum), integer(-1), integer(0), integer(9), integer(10), integer(api.MaxNum), str(""), str("10"), str("9"), str("B"), str("a"), str("ab"), str("\u00e9"))
}

// someRight is a right graph of n nodes, whose kids' places are mostly near theirs, if near is so. With few labels many of its nodes fit.
func someRight(c *chance, n, labels int, near bool) api.Graph {
	all := scalars()
	l := make([]api.Node, n)
	for i := range l {
		label := c.below(labels)
		kids := make([]int, 1+(label+labels)%4)
		for k := range kids {
			kids[k] = c.below(n)
			if near && c.below(8) > 0 {
				kids[k] = min(n-1, i+1+c.below(3))
			}
		}
		switch label % 3 {
		case 0:
			l[i] = seq(kids...)
		case 1:
			var some []api.Scalar
			for _, number := range c.order(len(kids)) {
				some = append(some, all[(label+number*5)%len(all)])
			}
			l[i] = keyed(some, kids...)
		default:
			l[i] = one(all[label%len(all)])
		}
	}
	return api.Graph{Root: c.below(n), L: l}
}

// moved is a graph that is laid otherwise: its nodes at other places, among some that are not come to, and the keys of its maps in another order.
func moved(c *chance, g api.Graph, more int) api.Graph {
	n := len(g.L) + more
	place := c.order(n)
	h := api.Graph{Root: place[g.Root], L: make([]api.Node, n)}
	for i := range h.L {
		h.L[i] = seq(i, c.below(n))
	}
	for i, x := range g.L {
		y := api.Node{Kind: x.Kind, X: x.X}
		order := make([]int, len(x.Kids))
		for k := range order {
			order[k] = k
		}
		if x.Kind == api.Map {
			order = c.order(len(x.Kids))
		}
		for _, k := range order {
			y.Kids = append(y.Kids, place[x.Kids[k]])
			if x.Kind == api.Map {
				y.Keys = append(y.Keys, x.Keys[k])
			}
		}
		h.L[place[i]] = y
	}
	return h
}

// ring are n lists, each of the next one, and of its own first one so many times more.
func ring(n, more int) api.Graph {
	var g api.Graph
	for i := range n {
		x := seq((i + 1) % n)
		for range more {
			x.Kids = append(x.Kids, 0)
		}
		g.L = append(g.L, x)
	}
	return g
}

// wrongNodes are some that are right in no graph of less than 200 nodes.
func wrongNodes() []api.Node {
	return []api.Node{{Kind: 3}, {Kind: -1}, {Kind: 1 << 32}, one(str("\xff")), one(boolean(2)), one(integer(api.MaxNum + 1)), one(api.Scalar{N: 1}), {Kids: []int{0}}, {Keys: texts("a")}, seq(-1), seq(0, 200), seq(math.MinInt), seq(math.MaxInt), {Kind: api.Seq, X: str("a")}, {Kind: api.Seq, Keys: texts("a")},
		keyed(texts("a")), keyed(nil, 0), keyed(texts("ab"), 0), keyed(texts("a"), 0, 0), keyed(texts("aa"), 0, 0), keyed(texts("aba"), 0, 0, 0), keyed(texts("a"), 200), keyed(texts("a"), -1), keyed(keys(str("\xff")), 0), keyed(keys(api.Scalar{Kind: 4}), 0), {Kind: api.Map, X: boolean(1)}}
}

func TestNumbers(t *testing.T) {
	if api.ErrGraph != 70 || api.ErrLimit != 71 || api.MaxNodes != 200 {
		t.Error(api.ErrGraph, api.ErrLimit, api.MaxNodes)
	}
}

// P9.1: Pairs

func TestPairsKnown(t *testing.T) {
	// A list of itself, and a list of a list of the first one.
	justFit(t, graph(0, seq(0)), graph(0, seq(1), seq(0)), 0, 0, 0, 1)
	areAlike(t, graph(0, seq(0)), graph(0, seq(0)), 0, 0)
	areAlike(t, graph(0, one(null())), graph(0, one(null())), 0, 0)
	areAlike(t, graph(0, seq()), graph(0, seq()), 0, 0)
	areAlike(t, graph(0, keyed(nil)), graph(0, keyed(nil)), 0, 0)
	areAlike(t, graph(2, one(str("a")), one(str("b")), seq(0, 2)), graph(1, one(null()), seq(2, 1), one(str("a"))), 2, 1, 0, 2)
	areAlike(t, graph(1, seq(1), seq(0)), graph(0, seq(1), seq(0)), 1, 0, 0, 1)
	justFit(t, graph(1, seq(1), seq(0)), graph(0, seq(1), seq(1)), 1, 0, 0, 1, 1, 1)
	areUnfit(t, graph(0, one(null())), graph(0, seq()), 0, 0)
	areUnfit(t, graph(1, one(null()), seq(0)), graph(2, seq(), seq(), seq(1)), 1, 2, 0, 1)
}

// TestPairsInOrder: each pair comes with all that is walked to from it, ahead of the next one.
func TestPairsInOrder(t *testing.T) {
	tree := graph(0, seq(1, 4), seq(2, 3), one(null()), one(null()), seq(5), one(null()))
	areAlike(t, tree, tree, 0, 0, 1, 1, 2, 2, 3, 3, 4, 4, 5, 5)
	other := graph(5, one(null()), seq(0), one(null()), one(null()), seq(3, 2), seq(4, 1))
	areAlike(t, tree, other, 0, 5, 1, 4, 2, 3, 3, 2, 4, 1, 5, 0)
	// It is come to first from the pair ahead, though both are kids of the Roots too.
	areAlike(t, graph(0, seq(1, 2, 3), seq(3), one(null()), one(null())), graph(0, seq(3, 1, 2), one(null()), one(null()), seq(2)), 0, 0, 1, 3, 3, 2, 2, 1)
	// They are kids of the Roots ahead, and twice.
	areAlike(t, graph(0, seq(3, 1, 3, 2), seq(2, 3), seq(1), one(null())), graph(0, seq(1, 2, 1, 3), one(null()), seq(3, 1), seq(2)), 0, 0, 3, 1, 1, 2, 2, 3)
	// The same nodes, with others: each pair is walked from once.
	justFit(t, graph(0, seq(0, 1), seq(1, 0)), graph(0, seq(0, 0)), 0, 0, 1, 0)
	justFit(t, graph(0, seq(1, 0), seq(0, 1)), graph(0, seq(1, 1), seq(0, 0)), 0, 0, 1, 1, 1, 0, 0, 1)
	// Two pairs of the same two places are two, if the places are those of other graphs.
	justFit(t, graph(0, seq(1), seq(2), seq(0)), graph(0, seq(1), seq(0)), 0, 0, 1, 1, 2, 0, 0, 1, 1, 0, 2, 1)
	areAlike(t, graph(0, seq(1), seq(0)), graph(1, seq(1), seq(0)), 0, 1, 1, 0)
}

// TestPairsByKeys: maps' kids come as their keys rise, however they are laid.
func TestPairsByKeys(t *testing.T) {
	leaves := []api.Node{one(str("a")), one(str("b")), one(str("c"))}
	g := graph(3, append(leaves, keyed(texts("cab"), 2, 0, 1))...)
	h := graph(0, keyed(texts("bca"), 2, 3, 1), leaves[0], leaves[1], leaves[2])
	areAlike(t, g, h, 3, 0, 0, 1, 1, 2, 2, 3)
	// By the order of laying they would fit; so they do not.
	areUnfit(t, g, graph(3, append(leaves, keyed(texts("abc"), 2, 0, 1))...), 3, 3, 0, 2)
	areUnfit(t, graph(2, one(null()), seq(), keyed(texts("ba"), 0, 1)), graph(2, one(null()), seq(), keyed(texts("ab"), 0, 1)), 2, 2, 1, 0)
	areAlike(t, graph(2, one(null()), seq(), keyed(texts("ba"), 0, 1)), graph(2, seq(), one(null()), keyed(texts("ab"), 0, 1)), 2, 2, 1, 0, 0, 1)

	// Of all kinds, in any order.
	c := chance(7)
	all := scalars()
	for range 50 {
		var both [2]api.Graph
		var want []api.Pair
		want = append(want, api.Pair{A: len(all), B: len(all)})
		var at [2][]int
		for side := range both {
			at[side] = c.order(len(all))
			var x api.Node
			for _, number := range c.order(len(all)) {
				x.Keys, x.Kids = append(x.Keys, all[number]), append(x.Kids, at[side][number])
			}
			x.Kind = api.Map
			l := make([]api.Node, len(all))
			for number, place := range at[side] {
				l[place] = one(all[number])
			}
			both[side] = graph(len(all), append(l, x)...)
		}
		for number := range all {
			want = append(want, api.Pair{A: at[0][number], B: at[1][number]})
		}
		isTold(t, both[0], both[1], true, true, want)
	}
}

// labelled are nodes of all kinds, no two of which fit, for a graph that has a node at place 0 and one at 1.
func labelled() []api.Node {
	var l []api.Node
	for _, x := range scalars() {
		l = append(l, one(x))
		l = append(l, keyed(keys(x), 1))
	}
	for n := range 5 {
		l = append(l, seq([]int{1, 0, 1, 1}[:n:n]...))
	}
	l = append(l, keyed(nil))
	for _, letters := range []string{"ab", "ac", "bc", "abc", "abd", "acd", "bcd", "abcd"} {
		l = append(l, keyed(texts(letters), []int{1, 1, 0, 1}[:len(letters):len(letters)]...))
	}
	return append(l, keyed(keys(null(), str("")), 1, 1), keyed(keys(integer(1), str("1")), 1, 1), keyed(keys(integer(0), str("1")), 1, 1), keyed(keys(boolean(1), str("1")), 1, 1))
}

// TestFitEachField: both nodes have the same Kind, X, keys and number of kids, or do not fit.
func TestFitEachField(t *testing.T) {
	all := labelled()
	for i, x := range all {
		for k, y := range all {
			g, h := graph(0, x, one(str("leaf"))), graph(0, y, one(str("leaf")))
			if i != k {
				areUnfit(t, g, h, 0, 0)
				continue
			}
			if got := holds(t, g, h); !got.fit || !got.alike {
				t.Error(short(x, got))
			}
		}
	}
	// What kids' places are, and texts' memory, is nothing to it.
	areAlike(t, graph(0, seq(1, 2), one(str("abc")), seq()), graph(2, seq(), one(str(strings.Clone("abc"))), seq(1, 0)), 0, 2, 1, 1, 2, 0)
	areAlike(t, graph(0, keyed(keys(str("abc")), 0)), graph(0, keyed(keys(str(strings.Clone("abc"))), 0)), 0, 0)
	areAlike(t, graph(0, api.Node{Kind: api.Seq}), graph(0, api.Node{Kind: api.Seq, Keys: []api.Scalar{}, Kids: []int{}}), 0, 0)
	areAlike(t, graph(0, api.Node{Kind: api.Map, Keys: []api.Scalar{}, Kids: []int{}}), graph(0, api.Node{Kind: api.Map}), 0, 0)
	areAlike(t, graph(0, api.Node{}), graph(0, api.Node{Keys: []api.Scalar{}, Kids: []int{}}), 0, 0)
}

// TestPairsEnd: at the first pair that does not fit, wherever it is, with it, and whatever comes behind.
func TestPairsEnd(t *testing.T) {
	g := graph(0, seq(1, 5, 0), keyed(texts("ba"), 4, 2), seq(3, 0), one(str("x")), seq(1, 1), keyed(texts("a"), 6), one(null()))
	walk := []int{0, 1, 2, 3, 4, 5, 6}
	unlike := []api.Node{one(str("y")), seq(), keyed(nil), seq(0, 1, 2, 3), keyed(texts("bd"), 0, 0), keyed(texts("z"), 0), one(integer(1))}
	for i, at := range walk {
		for _, x := range unlike {
			h := filled(g)
			h.L[at] = x
			var l []api.Pair
			for _, place := range walk[:i+1] {
				l = append(l, api.Pair{A: place, B: place})
			}
			isTold(t, g, h, false, false, l)
			for k := i + 1; k < len(walk); k++ {
				h.L[walk[k]] = unlike[(i+k)%len(unlike)]
				isTold(t, g, h, false, false, l)
			}
		}
	}
}

// TestPairsOfUnlikeNumbers: lists of any two numbers of kids.
func TestPairsOfUnlikeNumbers(t *testing.T) {
	for n := range 12 {
		for m := range 12 {
			g, h := graph(0, seq(make([]int, n)...)), graph(0, seq(make([]int, m)...))
			if n == m {
				areAlike(t, g, h, 0, 0)
			} else {
				areUnfit(t, g, h, 0, 0)
			}
			g, h = graph(1, g.L[0], seq(1, 0)), graph(1, h.L[0], seq(1, 0))
			if n == m {
				areAlike(t, g, h, 1, 1, 0, 0)
			} else {
				areUnfit(t, g, h, 1, 1, 0, 0)
			}
		}
	}
}

// TestRings: the pairs of two rings go round, till both are at their Roots.
func TestRings(t *testing.T) {
	around := func(n, m int) {
		t.Helper()
		want := pairs(0, 0)
		for i := 1; i%n != 0 || i%m != 0; i++ {
			want = append(want, api.Pair{A: i % n, B: i % m})
		}
		isTold(t, ring(n, 0), ring(m, 0), true, n == m, want)
	}
	for n := 1; n < 25; n++ {
		for m := 1; m < 25; m++ {
			around(n, m)
		}
	}
	around(api.MaxNodes-1, api.MaxNodes)
	around(api.MaxNodes, api.MaxNodes)
	around(197, 199)
	around(128, api.MaxNodes)
}

// P9.2: Alike

// TestAlikeNodeTwice: a node of the one graph is with two of the other one.
func TestAlikeNodeTwice(t *testing.T) {
	a := one(str("a"))
	shared := graph(0, seq(1, 1), a)
	justFit(t, shared, graph(0, seq(1, 2), a, a), 0, 0, 1, 1, 1, 2)
	justFit(t, shared, graph(0, seq(2, 1), a, a), 0, 0, 1, 2, 1, 1)
	areAlike(t, shared, graph(0, seq(2, 2), a, a), 0, 0, 1, 2)
	areAlike(t, graph(0, seq(1, 2), a, a), graph(0, seq(2, 1), a, a), 0, 0, 1, 2, 2, 1)
	// In both at once: neither has fewer nodes.
	justFit(t, graph(0, seq(1, 1, 2), a, a), graph(0, seq(1, 2, 2), a, a), 0, 0, 1, 1, 1, 2, 2, 2)
	justFit(t, graph(0, seq(1, 2, 1, 2), a, a), graph(0, seq(1, 2, 2, 1), a, a), 0, 0, 1, 1, 2, 2, 1, 2, 2, 1)
	// Far from each other, or the Root itself.
	justFit(t, graph(0, seq(1, 2), seq(3), seq(3), a), graph(0, seq(1, 2), seq(3), seq(4), a, a), 0, 0, 1, 1, 3, 3, 2, 2, 3, 4)
	justFit(t, graph(0, seq(0, 0)), graph(0, seq(0, 1), seq(0, 1)), 0, 0, 0, 1)
	justFit(t, graph(0, keyed(texts("ab"), 1, 1), a), graph(0, keyed(texts("ba"), 1, 2), a, a), 0, 0, 1, 2, 1, 1)
	// What isn't come to may be there as often as it likes.
	areAlike(t, graph(0, a, a, a), graph(1, seq(0), a), 0, 1)
	areAlike(t, graph(0, seq(1), a), graph(3, a, a, seq(3), seq(0), seq(2)), 0, 3, 1, 0)
}

// TestAlikeThenUnfit: they are not alike, whichever is come to first.
func TestAlikeThenUnfit(t *testing.T) {
	a, b := one(str("a")), one(str("b"))
	areUnfit(t, graph(0, seq(1, 1, 1), a), graph(0, seq(1, 2, 3), a, a, b), 0, 0, 1, 1, 1, 2, 1, 3)
	areUnfit(t, graph(0, seq(1, 1, 1), a), graph(0, seq(3, 1, 2), a, a, b), 0, 0, 1, 3)
	areUnfit(t, graph(0, seq(1, 2), a, a), graph(0, seq(1, 1, 1), a), 0, 0)
}

// TestAlikeMoved: graphs are alike that are laid otherwise, and their pairs are both walks side by side.
func TestAlikeMoved(t *testing.T) {
	c := chance(11)
	far := 0
	for round := range 3000 {
		n := 1 + c.below(25)
		if round%20 == 0 {
			n = 1 + c.below(api.MaxNodes)
		}
		g := someRight(&c, n, 1+c.below(12), round%2 == 0)
		h := moved(&c, g, c.below(min(5, api.MaxNodes-n+1)))
		a, _ := reach.Walk(g)
		b, _ := reach.Walk(h)
		var want []api.Pair
		for i := range a {
			want = append(want, api.Pair{A: a[i], B: b[i]})
		}
		isTold(t, g, h, true, true, want)
		far = max(far, len(want))
	}
	if far < 50 {
		t.Error("only", far, "pairs")
	}
}

// TestAlikeSplit: one way to a node that has two leads to a copy of it instead; the pairs still fit.
func TestAlikeSplit(t *testing.T) {
	c := chance(19)
	split := 0
	for round := range 3000 {
		g := someRight(&c, 1+c.below(12), 1+c.below(9), round%2 == 0)
		h := filled(g)
		walk, _ := reach.Walk(g)
		at := walk[c.below(len(walk))]
		if len(g.L[at].Kids) == 0 {
			continue
		}
		number := c.below(len(g.L[at].Kids))
		kid := g.L[at].Kids[number]
		h.L = append(h.L, filled(g).L[kid])
		h.L[at].Kids[number] = len(g.L)
		got := holds(t, g, h)
		holds(t, h, g)
		if !got.fit {
			t.Fatal(short(g, h, got))
		}
		// Unless nothing else leads to the node itself any more.
		after, _ := reach.Walk(h)
		if got.alike == slices.Contains(after, kid) {
			t.Fatal(short(g, h, got))
		}
		if !got.alike {
			split++
		}
	}
	if split < 500 {
		t.Error("only", split)
	}
}

// TestAlikeIsMutual: all graphs are alike to themselves, and to those that are alike to them, and these to each other.
func TestAlikeIsMutual(t *testing.T) {
	c := chance(29)
	var l []api.Graph
	for round := range 40 {
		g := someRight(&c, 1+c.below(4), 1+c.below(3), round%2 == 0)
		l = append(l, g, moved(&c, g, 1), moved(&c, g, 2))
	}
	alike := make([][]bool, len(l))
	for i, g := range l {
		for _, h := range l {
			alike[i] = append(alike[i], tell(t, g, h).alike)
		}
	}
	for i := range l {
		for k := range l {
			if alike[i][k] != alike[k][i] || i/3 == k/3 && !alike[i][k] {
				t.Error(short(l[i], l[k]))
			}
			for m := range l {
				if alike[i][k] && alike[k][m] && !alike[i][m] {
					t.Error(short(l[i], l[k], l[m]))
				}
			}
		}
	}
}

// P9.1 to P9.3: all small graphs

// eachNode are some that are right among n.
func eachNode(n int) []api.Node {
	l := []api.Node{one(null()), one(str("a")), seq(), keyed(nil)}
	for i := range n {
		l = append(l, seq(i), keyed(texts("a"), i))
		for k := range n {
			l = append(l, seq(i, k), keyed(texts("ab"), i, k), keyed(texts("ba"), i, k))
		}
	}
	return l
}

// eachSmall are those of at most two nodes, and any Root.
func eachSmall() []api.Graph {
	var l []api.Graph
	for _, a := range eachNode(1) {
		l = append(l, graph(0, a))
	}
	for root := range 2 {
		for _, a := range eachNode(2) {
			for _, b := range eachNode(2) {
				l = append(l, graph(root, a, b))
			}
		}
	}
	return l
}

// TestAllSmall: each with each; and they are alike just if their tidy ones are the same.
func TestAllSmall(t *testing.T) {
	l := eachSmall()
	var tidy []api.Graph
	for _, g := range l {
		h, _ := reach.Tidy(g)
		tidy = append(tidy, h)
	}
	fit, alike := 0, 0
	for i, g := range l {
		for k, h := range l {
			got := holds(t, g, h)
			if got.alike != arena.Same(tidy[i], tidy[k]) {
				t.Fatal(short(g, h, got))
			}
			if got.fit {
				fit++
			}
			if got.alike {
				alike++
			}
		}
	}
	if alike < len(l) || fit < alike+len(l) {
		t.Error(len(l), fit, alike)
	}
}

// TestSomeLarge: with graphs that differ at some places, and quite other ones.
func TestSomeLarge(t *testing.T) {
	c := chance(5)
	fit, alike, unfit, most := 0, 0, 0, 0
	for round := range 6000 {
		n := 1 + c.below(12)
		if round%50 == 0 {
			n = 1 + c.below(api.MaxNodes)
		}
		labels := 1 + c.below(6)
		g := someRight(&c, n, labels, round%2 == 0)
		h := someRight(&c, max(1, n-c.below(3)), labels, round%2 == 0)
		if round%3 > 0 {
			h = moved(&c, g, 0)
			for range 1 + c.below(3) {
				if x := h.L[c.below(n)]; len(x.Kids) > 0 {
					x.Kids[c.below(len(x.Kids))] = c.below(n)
				}
			}
		}
		got := holds(t, g, h)
		a, _ := reach.Tidy(g)
		b, _ := reach.Tidy(h)
		if got.alike != arena.Same(a, b) {
			t.Fatal(short(g, h, got))
		}
		most = max(most, len(got.l))
		switch {
		case got.alike:
			alike++
		case got.fit:
			fit++
		default:
			unfit++
		}
	}
	if fit < 500 || alike < 500 || unfit < 500 || most < 1000 {
		t.Error(fit, alike, unfit, most)
	}
}

// P9.3

// TestTidyIsAlike: each graph and its tidy one are alike, and each two tidy ones just if they are the same.
func TestTidyIsAlike(t *testing.T) {
	c := chance(13)
	for round := range 3000 {
		g := someRight(&c, 1+c.below(15), 1+c.below(9), round%2 == 0)
		h, _ := reach.Tidy(g)
		walk, _ := reach.Walk(g)
		var want []api.Pair
		for i, place := range walk {
			want = append(want, api.Pair{A: place, B: i})
		}
		isTold(t, g, h, true, true, want)
		k, _ := reach.Tidy(someRight(&c, 1+c.below(2), 1, false))
		m, _ := reach.Tidy(someRight(&c, 1+c.below(2), 1, false))
		if tell(t, k, m).alike != arena.Same(k, m) {
			t.Fatal(short(k, m))
		}
	}
}

// TestFitButUnlike: what says the same need not be alike, however it is laid.
func TestFitButUnlike(t *testing.T) {
	for n := 1; n < 12; n++ {
		for m := 1; m < 12; m++ {
			for more := range 3 {
				g, h := ring(n, more), ring(m, more)
				if got := holds(t, g, h); !got.fit || got.alike != (n == m) {
					t.Error(short(g, h, got))
				}
			}
		}
	}
}

// P9.1, P9.2: what is not right

// TestWrongNode: wherever it stands, in either graph, walked to or not.
func TestWrongNode(t *testing.T) {
	right := []api.Graph{graph(0, seq(0)), graph(1, one(null()), keyed(texts("ab"), 0, 1)), graph(0, one(null()))}
	for _, g := range right {
		isRefused(t, api.ErrGraph, api.Graph{}, g)
		isRefused(t, api.ErrGraph, g, api.Graph{})
	}
	isRefused(t, api.ErrGraph, api.Graph{}, api.Graph{})
	for _, x := range wrongNodes() {
		for n := range 4 {
			for place := range n + 1 {
				for root := range n + 1 {
					l := make([]api.Node, n)
					for i := range l {
						l[i] = seq(0, n)
					}
					for _, wrong := range []api.Graph{graph(root, slices.Insert(l, place, x)...), graph(root, slices.Insert(make([]api.Node, n), place, x)...)} {
						isRefused(t, api.ErrGraph, wrong, wrong)
						for _, g := range right {
							isRefused(t, api.ErrGraph, wrong, g)
							isRefused(t, api.ErrGraph, g, wrong)
						}
					}
				}
			}
		}
	}
}

// TestWrongBehindUnfit: even if the walk ends ahead of what is wrong.
func TestWrongBehindUnfit(t *testing.T) {
	for _, x := range wrongNodes() {
		g, h := graph(0, one(null()), x), graph(0, seq(0), x)
		isRefused(t, api.ErrGraph, g, graph(0, seq()))
		isRefused(t, api.ErrGraph, graph(0, one(str("a"))), g)
		isRefused(t, api.ErrGraph, h, graph(0, seq(0, 0)))
		isRefused(t, api.ErrGraph, g, h)
	}
}

func TestWrongRoot(t *testing.T) {
	for n := range 5 {
		for _, root := range []int{math.MinInt, -1 << 32, -n - 1, -2, -1, n, n + 1, 200, 256, 1 << 32, math.MaxInt} {
			wrong := api.Graph{Root: root, L: make([]api.Node, n)}
			isRefused(t, api.ErrGraph, wrong, graph(0, one(null())))
			isRefused(t, api.ErrGraph, graph(0, one(null())), wrong)
			isRefused(t, api.ErrGraph, wrong, wrong)
		}
	}
}

// TestLimit: more nodes than are right are told, of the first graph first.
func TestLimit(t *testing.T) {
	right, wrong := graph(0, one(null())), graph(0, seq(-1))
	for _, n := range []int{201, 202, 255, 256, 257, 456, 1 << 16} {
		for _, root := range []int{0, n - 1, n, -1, math.MaxInt} {
			g := api.Graph{Root: root, L: make([]api.Node, n)}
			isRefused(t, api.ErrLimit, g, right)
			isRefused(t, api.ErrLimit, right, g)
			isRefused(t, api.ErrLimit, g, g)
			isRefused(t, api.ErrLimit, g, wrong)
			isRefused(t, api.ErrGraph, wrong, g)
			isRefused(t, api.ErrGraph, api.Graph{}, g)
			isRefused(t, api.ErrLimit, g, api.Graph{})
			g.L[0], g.L[n-1] = seq(-1), api.Node{Kind: 3}
			isRefused(t, api.ErrLimit, g, right)
			isRefused(t, api.ErrLimit, right, g)
		}
	}
	for n := 195; n <= api.MaxNodes; n++ {
		g := api.Graph{Root: n - 1, L: make([]api.Node, n)}
		areAlike(t, g, right, n-1, 0)
		areAlike(t, g, g, n-1, n-1)
	}
}

// R5: many pairs, and long lists

// TestManyPairs: all that two graphs of 200 nodes may have, each with many kids.
func TestManyPairs(t *testing.T) {
	const n, kids = api.MaxNodes, 240
	c := chance(31)
	var g, h api.Graph
	for _, x := range []*api.Graph{&g, &h} {
		for range n {
			node := seq()
			for range kids {
				node.Kids = append(node.Kids, c.below(n))
			}
			x.L = append(x.L, node)
		}
	}
	got := tell(t, g, h)
	if !got.same(toldByRule(g, h)) || len(got.l) != n*n || !got.fit || got.alike {
		t.Error(len(got.l), got.fit, got.alike)
	}
}

// TestLong: nodes with very many kids, and long texts.
func TestLong(t *testing.T) {
	const n = 1 << 16
	c := chance(37)
	long := strings.Repeat("a", 1<<20)
	kids, same, l := make([]int, n), make([]int, n), make([]api.Scalar, n)
	for i := range n {
		kids[i], l[i] = i%3, integer(n-i)
		same[i] = []int{2, 0, 3}[kids[i]]
	}
	g := graph(1, seq(kids...), keyed(l, kids...), one(str(long)), one(null()))
	h := graph(0, keyed(slices.Clone(l), same...), one(null()), seq(slices.Clone(same)...), one(str(strings.Clone(long))))
	areAlike(t, g, h, 1, 0, 0, 2, 2, 3)
	// The last kid of the list, and the last key, are others.
	h.L[2].Kids[n-1] = 1
	want := tell(t, g, h)
	if !slices.Equal(want.l, pairs(1, 0, 0, 2, 2, 3, kids[n-1], 1)) || want.fit || want.alike {
		t.Error(want)
	}
	h.L[2].Kids[n-1] = same[n-1]
	h.L[0].Keys[c.below(n)] = integer(n + 1)
	areUnfit(t, g, h, 1, 0)
	h.L[0].Keys = l[:n:n]
	h.L[3].X.S = long[1:] + "b"
	areUnfit(t, g, h, 1, 0, 0, 2, 2, 3)
}

// TestDeep: of chains that are as long as may be.
func TestDeep(t *testing.T) {
	for n := 150; n <= api.MaxNodes; n += 10 {
		var g, h api.Graph
		var want []api.Pair
		for i := range n {
			g.L = append(g.L, seq(min(i+1, n-1), 0))
			h.L = append(h.L, seq(max(i-1, 0), n-1))
			want = append(want, api.Pair{A: i, B: n - 1 - i})
		}
		h.Root = n - 1
		isTold(t, g, h, true, true, want)
		h.L[0] = seq(0, n-1, 0)
		isTold(t, g, h, false, false, want)
		h.L[0] = seq(0, 0)
		isTold(t, g, h, true, false, toldByRule(g, h).l)
	}
}

// R3

// TestNothingIsWritten: neither into lists that are handed in, nor into their spare room.
func TestNothingIsWritten(t *testing.T) {
	letters := texts("edcbaz")
	kids := []int{1, 0, 2, 1, 0, 77}
	for n := range len(kids) {
		nodes := []api.Node{{Kind: api.Map, Keys: letters[:n], Kids: kids[:n]}, {Kind: api.Seq, Kids: kids[:n]}, one(str("a")), {Kind: 9}}
		old := filled(api.Graph{L: nodes})
		for m := range len(nodes) + 1 {
			for root := range 3 {
				for other := range 3 {
					g, h := api.Graph{Root: root, L: nodes[:m]}, api.Graph{Root: other, L: nodes[:m]}
					holds(t, g, h)
					l, _, _ := iso.Pairs(g, h)
					clear(l)
					_ = append(l, api.Pair{A: 5, B: 5}, api.Pair{A: 5, B: 5})
					holds(t, g, h)
				}
			}
		}
		if !reflect.DeepEqual(old, filled(api.Graph{L: nodes})) || !slices.Equal(letters, texts("edcbaz")) || !slices.Equal(kids, []int{1, 0, 2, 1, 0, 77}) {
			t.Fatal(n, nodes, letters, kids)
		}
	}
}

// TestAnswersAreNewMemory: no two answers share any, spare room neither.
func TestAnswersAreNewMemory(t *testing.T) {
	met := map[*api.Pair]bool{}
	for range 3 {
		for n := 1; n < 40; n++ {
			l, _, _ := iso.Pairs(ring(n, 1), ring(n%5+1, 1))
			for i := range l[:cap(l)] {
				at := &l[:cap(l)][i]
				if met[at] {
					t.Fatal(n, "old memory")
				}
				met[at] = true
			}
		}
	}
}

// TestNothingIsKept: what is handed in may be changed, and answers stay as they are.
func TestNothingIsKept(t *testing.T) {
	g := graph(0, keyed(texts("ba"), 1, 2), seq(0), one(str("x")))
	h := graph(0, keyed(texts("ab"), 1, 2), one(str("x")), seq(0))
	want := pairs(0, 0, 2, 1, 1, 2)
	first, _, _ := iso.Pairs(g, h)
	areAlike(t, g, h, 0, 0, 2, 1, 1, 2)
	g.L[0].Keys[1], g.L[0].Kids[0] = str("c"), 2
	areUnfit(t, g, h, 0, 0)
	h.L[0].Keys[0] = str("c")
	areUnfit(t, g, h, 0, 0, 2, 2)
	h.L[2] = one(str("x"))
	justFit(t, g, h, 0, 0, 2, 2, 2, 1)
	h.L[1].X.S = "y"
	areUnfit(t, g, h, 0, 0, 2, 2, 2, 1)
	if !slices.Equal(first, want) {
		t.Error(first)
	}
}

// R1, R4

// TestAnyGraphs: of any fields, right or not.
func TestAnyGraphs(t *testing.T) {
	kinds := []int{math.MinInt, -1, 3, 256, 1 << 32, math.MaxInt}
	places := []int{math.MinInt, -1 << 32, -2, -1, 0, 1, 2, 3, 4, 5, 256, 1 << 32, math.MaxInt}
	some := append(scalars(), str("\xff"), api.Scalar{Kind: 9}, api.Scalar{Kind: -1}, integer(math.MinInt))
	c := chance(3)
	any := func() api.Graph {
		n := c.below(5)
		g := api.Graph{Root: c.below(max(n, 1)), L: make([]api.Node, n)}
		if c.below(9) == 0 {
			g.Root = places[c.below(len(places))]
		}
		for i := range g.L {
			x := &g.L[i]
			x.Kind = c.below(3)
			if c.below(16) == 0 {
				x.Kind = kinds[c.below(len(kinds))]
			}
			if x.Kind == api.One || c.below(16) == 0 {
				x.X = some[c.below(len(some))]
			}
			for range c.below(3) {
				kid := c.below(n)
				if c.below(16) == 0 {
					kid = places[c.below(len(places))]
				}
				if x.Kind != api.One || c.below(9) == 0 {
					x.Kids = append(x.Kids, kid)
				}
				if x.Kind == api.Map || c.below(9) == 0 {
					x.Keys = append(x.Keys, some[c.below(len(some))])
				}
			}
		}
		return g
	}
	right := 0
	for range 40000 {
		g, h := any(), any()
		holds(t, g, g)
		if holds(t, g, h).e == api.OK {
			right++
		}
	}
	if right < 3000 {
		t.Error("only", right, "right ones")
	}
}

// TestSameAnswersAgain: what is answered hangs on nothing else.
func TestSameAnswersAgain(t *testing.T) {
	c := chance(23)
	var graphs []api.Graph
	for range 150 {
		g := someRight(&c, 1+c.below(20), 1+c.below(5), true)
		graphs = append(graphs, g, moved(&c, g, 1))
	}
	for i, x := range wrongNodes() {
		graphs = append(graphs, graph(i%2, x, one(null())))
	}
	var first []string
	for round := range 4 {
		for i, g := range graphs {
			got := fmt.Sprint(tell(t, g, graphs[(i+1)%len(graphs)]), tell(t, g, g), strconv.Itoa(i))
			if round == 0 {
				first = append(first, got)
			} else if got != first[i] {
				t.Error(short(g, got, "not", first[i]))
			}
		}
	}
}
