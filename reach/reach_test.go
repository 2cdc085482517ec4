package reach_test

import (
	"cmp"
	"fmt"
	"math"
	"reflect"
	"slices"
	"strconv"
	"strings"
	"testing"
	"unsafe"

	"sigillary/api"
	"sigillary/arena"
	"sigillary/reach"
)

func null() api.Scalar         { return api.Scalar{Kind: api.Null} }
func boolean(n int) api.Scalar { return api.Scalar{Kind: api.Bool, N: n} }
func integer(n int) api.Scalar { return api.Scalar{Kind: api.Int, N: n} }
func str(s string) api.Scalar  { return api.Scalar{Kind: api.Str, S: s} }

func one(x api.Scalar) api.Node { return api.Node{Kind: api.One, X: x} }
func seq(kids ...int) api.Node  { return api.Node{Kind: api.Seq, Kids: kids} }

// keyed is a map of some keys, the first one of which is that of the first kid.
func keyed(keys []api.Scalar, kids ...int) api.Node {
	return api.Node{Kind: api.Map, Keys: keys, Kids: kids}
}

func keys(l ...api.Scalar) []api.Scalar { return l }

// texts are Strs, one for each letter.
func texts(letters string) []api.Scalar {
	var l []api.Scalar
	for _, r := range letters {
		l = append(l, str(string(r)))
	}
	return l
}

func graph(root int, l ...api.Node) api.Graph { return api.Graph{Root: root, L: l} }

// orderByRule is chapter 6's: by kind, then number, then text.
func orderByRule(a, b api.Scalar) int {
	return cmp.Or(cmp.Compare(a.Kind, b.Kind), cmp.Compare(a.N, b.N), strings.Compare(a.S, b.S))
}

// risingByRule are a right node's keys so that they rise, and its kids in that order.
func risingByRule(x api.Node) ([]api.Scalar, []int) {
	if x.Kind != 2 {
		return nil, x.Kids
	}
	order := make([]int, len(x.Keys))
	for i := range order {
		order[i] = i
	}
	slices.SortFunc(order, func(i, k int) int { return orderByRule(x.Keys[i], x.Keys[k]) })
	var rising []api.Scalar
	var kids []int
	for _, i := range order {
		rising, kids = append(rising, x.Keys[i]), append(kids, x.Kids[i])
	}
	return rising, kids
}

// walkByRule walks to a node, and from it, unless it was come to.
func walkByRule(g api.Graph, at int, come []int) []int {
	if slices.Contains(come, at) {
		return come
	}
	come = append(come, at)
	_, kids := risingByRule(g.L[at])
	for _, kid := range kids {
		come = walkByRule(g, kid, come)
	}
	return come
}

// tidyByRule lays the walk's nodes of a right graph.
func tidyByRule(g api.Graph) api.Graph {
	walk := walkByRule(g, g.Root, nil)
	place := make([]int, len(g.L))
	for i, at := range walk {
		place[at] = i
	}
	var h api.Graph
	for _, at := range walk {
		x := api.Node{Kind: g.L[at].Kind, X: g.L[at].X}
		rising, kids := risingByRule(g.L[at])
		x.Keys = rising
		for _, kid := range kids {
			x.Kids = append(x.Kids, place[kid])
		}
		h.L = append(h.L, x)
	}
	return h
}

// isTidyByRule looks at each thing that a tidy graph has.
func isTidyByRule(g api.Graph) bool {
	if _, e := arena.Check(g); e != api.OK || g.Root != 0 {
		return false
	}
	for _, x := range g.L {
		for i := 1; i < len(x.Keys); i++ {
			if orderByRule(x.Keys[i-1], x.Keys[i]) >= 0 {
				return false
			}
		}
	}
	walk := walkByRule(g, 0, nil)
	if len(walk) != len(g.L) {
		return false
	}
	for i, at := range walk {
		if i != at {
			return false
		}
	}
	return true
}

// found is what At answers.
type found struct {
	at int
	ok bool
}

func atByRule(g api.Graph, path []int) found {
	if _, e := arena.Check(g); e != api.OK {
		return found{}
	}
	at := g.Root
	for _, n := range path {
		_, kids := risingByRule(g.L[at])
		if n < 0 || n >= len(kids) {
			return found{}
		}
		at = kids[n]
	}
	return found{at, true}
}

// filled is a graph whose lists are none nil, in memory of its own.
func filled(g api.Graph) api.Graph {
	l := []api.Node{}
	for _, x := range g.L {
		l = append(l, api.Node{Kind: x.Kind, X: x.X, Keys: append([]api.Scalar{}, x.Keys...), Kids: append([]int{}, x.Kids...)})
	}
	return api.Graph{Root: g.Root, L: l}
}

func sameByRule(a, b api.Graph) bool { return reflect.DeepEqual(filled(a), filled(b)) }

// told is what the calls answer of a graph alone.
type told struct {
	walk   []int
	tidy   api.Graph
	isTidy bool
	e      api.Errno
}

func tell(t *testing.T, g api.Graph) told {
	t.Helper()
	walk, e := reach.Walk(g)
	tidy, f := reach.Tidy(g)
	if e != f {
		t.Errorf("%.300v: Walk tells %d, Tidy %d", g, e, f)
	}
	return told{walk, tidy, reach.IsTidy(g), e}
}

func sameTold(a, b told) bool {
	return slices.Equal(a.walk, b.walk) && sameByRule(a.tidy, b.tidy) && a.isTidy == b.isTidy && a.e == b.e
}

func at(g api.Graph, path ...int) found {
	place, ok := reach.At(g, path)
	return found{place, ok}
}

// holds says whether all calls answer of a graph what their rules say. It ends the test at the first one that does not: there are many.
func holds(t *testing.T, g api.Graph, paths ...[]int) {
	t.Helper()
	want := told{}
	if _, e := arena.Check(g); e != api.OK {
		want.e = e
	} else {
		want = told{walkByRule(g, g.Root, nil), tidyByRule(g), isTidyByRule(g), api.OK}
	}
	if got := tell(t, g); !sameTold(got, want) {
		t.Fatalf("%.300v: %.300v, not %.300v", g, got, want)
	}
	for _, path := range paths {
		if got, want := at(g, path...), atByRule(g, path); got != want {
			t.Fatalf("%.300v: %.300v: %v, not %v", g, path, got, want)
		}
	}
}

// isWalked says whether those are a graph's nodes, as its rule says.
func isWalked(t *testing.T, g api.Graph, want ...int) {
	t.Helper()
	if got, e := reach.Walk(g); !slices.Equal(got, want) || e != api.OK {
		t.Errorf("%.200v: %v, %d, not %v", g, got, e, want)
	}
	holds(t, g)
}

// isTidied says whether that is a graph's tidy one, as its rule says.
func isTidied(t *testing.T, g api.Graph, want ...api.Node) {
	t.Helper()
	if got, e := reach.Tidy(g); !sameByRule(got, graph(0, want...)) || e != api.OK {
		t.Errorf("%.200v: %v, %d, not %v", g, got, e, want)
	}
	holds(t, g)
	holds(t, graph(0, want...))
}

// isTidy says whether a graph is tidy, or is none, as its rule says.
func isTidy(t *testing.T, want bool, g api.Graph) {
	t.Helper()
	if got := reach.IsTidy(g); got != want || isTidyByRule(g) != want {
		t.Errorf("%.200v: %v", g, got)
	}
	holds(t, g)
}

// isAt says whether a path leads to that node, as its rule says.
func isAt(t *testing.T, want int, g api.Graph, path ...int) {
	t.Helper()
	if got := at(g, path...); got != (found{want, true}) || atByRule(g, path) != got {
		t.Errorf("%.200v: %v: %v, not %d", g, path, got, want)
	}
}

// isLost says whether a path leads nowhere, as its rule says.
func isLost(t *testing.T, g api.Graph, path ...int) {
	t.Helper()
	if got := at(g, path...); got != (found{}) || atByRule(g, path) != got {
		t.Errorf("%.200v: %v: %v", g, path, got)
	}
}

// isRefused says whether all calls tell of that error, and nothing beside it.
func isRefused(t *testing.T, e api.Errno, g api.Graph) {
	t.Helper()
	got := tell(t, g)
	if got.e != e || len(got.walk) != 0 || got.tidy.Root != 0 || len(got.tidy.L) != 0 || got.isTidy {
		t.Errorf("%.200v: %.200v, not %d", g, got, e)
	}
	for _, path := range [][]int{nil, {0}, {1, 0}, {-1}} {
		if got := at(g, path...); got != (found{}) {
			t.Errorf("%.200v: %v: %v", g, path, got)
		}
	}
}

// chance are numbers that look like it.
type chance uint32

func (c *chance) below(n int) int {
	*c = *c*1664525 + 1013904223
	return int(*c>>8) % n
}

// scalars are some of each kind, so that they rise.
func scalars() []api.Scalar {
	return keys(null(), boolean(0), boolean(1), integer(-api.MaxNum), integer(-1), integer(0), integer(9), integer(10), integer(api.MaxNum), str(""), str("10"), str("9"), str("B"), str("a"), str("ab"), str("\u00e9"))
}

// someRight is a right graph of n nodes, whose kids' places are mostly near theirs, if near is so.
func someRight(c *chance, n int, near bool) api.Graph {
	all := scalars()
	l := make([]api.Node, n)
	for i := range l {
		kids := make([]int, c.below(6))
		for k := range kids {
			kids[k] = c.below(n)
			if near && c.below(8) > 0 {
				kids[k] = min(n-1, i+1+c.below(3))
			}
		}
		switch c.below(4) {
		case 0:
			l[i] = one(all[c.below(len(all))])
		case 1:
			l[i] = seq(kids...)
		default:
			from, step := c.below(len(all)), 1+2*c.below(8)
			var some []api.Scalar
			for k := range kids {
				some = append(some, all[(from+k*step)%len(all)])
			}
			l[i] = keyed(some, kids...)
		}
	}
	return api.Graph{Root: c.below(n), L: l}
}

// somePath is one of at most n numbers, nearly all of which are those of kids.
func somePath(c *chance, g api.Graph, n int) []int {
	var path []int
	at := g.Root
	for range c.below(n + 1) {
		_, kids := risingByRule(g.L[at])
		if c.below(20) == 0 {
			path = append(path, c.below(2)*(len(kids)+1)-1)
		}
		if len(kids) == 0 {
			break
		}
		number := c.below(len(kids))
		path = append(path, number)
		at = kids[number]
	}
	return path
}

// eachPath goes through all paths of at most n numbers from -1 to 3.
func eachPath(n int) [][]int {
	l := [][]int{nil}
	for from := 0; n > 0; n-- {
		behind := len(l)
		for _, path := range l[from:behind] {
			for number := -1; number <= 3; number++ {
				l = append(l, append(slices.Clone(path), number))
			}
		}
		from = behind
	}
	return l
}

// wrongNodes are some that are right in no graph of less than 200 nodes.
func wrongNodes() []api.Node {
	return []api.Node{{Kind: 3}, {Kind: -1}, {Kind: 1 << 32}, one(str("\xff")), one(boolean(2)), one(integer(api.MaxNum + 1)), one(api.Scalar{N: 1}), {Kids: []int{0}}, {Keys: texts("a")}, seq(-1), seq(0, 200), seq(math.MinInt), seq(math.MaxInt), {Kind: api.Seq, X: str("a")}, {Kind: api.Seq, Keys: texts("a")},
		keyed(texts("a")), keyed(nil, 0), keyed(texts("ab"), 0), keyed(texts("a"), 0, 0), keyed(texts("aa"), 0, 0), keyed(texts("aba"), 0, 0, 0), keyed(texts("a"), 200), keyed(texts("a"), -1), keyed(keys(str("\xff")), 0), keyed(keys(api.Scalar{Kind: 4}), 0), {Kind: api.Map, X: boolean(1)}}
}

func TestNumbers(t *testing.T) {
	if api.ErrGraph != 70 || api.ErrLimit != 71 || api.MaxNodes != 200 {
		t.Error(api.ErrGraph, api.ErrLimit, api.MaxNodes)
	}
}

// P8.1: Walk

func TestWalkKnown(t *testing.T) {
	isWalked(t, graph(2, one(str("a")), one(str("b")), seq(0, 2)), 2, 0)
	isWalked(t, graph(0, one(null())), 0)
	isWalked(t, graph(0, seq()), 0)
	isWalked(t, graph(0, keyed(nil)), 0)
	isWalked(t, graph(0, seq(0)), 0)
	isWalked(t, graph(0, seq(0, 0, 0)), 0)
	isWalked(t, graph(3, one(null()), one(null()), seq(0), one(null()), seq(3)), 3)
	isWalked(t, graph(1, seq(1), seq(0)), 1, 0)
	// A kid comes with all that is walked to from it, ahead of the next one.
	isWalked(t, graph(0, seq(1, 4), seq(2, 3), one(null()), one(null()), seq(5), one(null())), 0, 1, 2, 3, 4, 5)
	isWalked(t, graph(0, seq(2, 1), seq(3), seq(4), one(null()), one(null())), 0, 2, 4, 1, 3)
	// It is come to first from the kid ahead, though it is a kid of the Root's too.
	isWalked(t, graph(0, seq(1, 2, 3), seq(3), one(null()), one(null())), 0, 1, 3, 2)
	isWalked(t, graph(0, seq(1, 2), seq(2, 0), seq(1, 3), seq(0, 1, 2)), 0, 1, 2, 3)
	// It is a kid of the Root's ahead, and twice.
	isWalked(t, graph(0, seq(3, 1, 3, 2), seq(2, 3), seq(1), one(null())), 0, 3, 1, 2)
}

// TestWalkByKeys: a map's kids come as its keys rise.
func TestWalkByKeys(t *testing.T) {
	isWalked(t, graph(0, keyed(texts("cab"), 1, 2, 3), seq(), seq(), seq()), 0, 2, 3, 1)
	isWalked(t, graph(0, keyed(texts("abc"), 3, 2, 1), seq(), seq(), seq()), 0, 3, 2, 1)
	isWalked(t, graph(0, keyed(texts("ba"), 1, 2), seq(3), keyed(texts("ba"), 4, 5), one(null()), one(null()), one(null())), 0, 2, 5, 4, 1, 3)
	// Of all kinds.
	all := scalars()
	slices.Reverse(all)
	var kids, want []int
	l := []api.Node{{}}
	for i := range all {
		l = append(l, one(all[i]))
		kids = append(kids, i+1)
		want = append([]int{i + 1}, want...)
	}
	l[0] = keyed(all, kids...)
	isWalked(t, graph(0, l...), append([]int{0}, want...)...)
}

// TestWalkFromEachRoot: of a ring, and of a chain.
func TestWalkFromEachRoot(t *testing.T) {
	for n := 1; n < 40; n++ {
		for root := range n {
			var ring, chain api.Graph
			var around, along []int
			ring.Root, chain.Root = root, root
			for i := range n {
				ring.L = append(ring.L, seq((i+1)%n))
				chain.L = append(chain.L, seq(min(i+1, n-1), root))
				around = append(around, (root+i)%n)
				if i >= root {
					along = append(along, i)
				}
			}
			isWalked(t, ring, around...)
			isWalked(t, chain, along...)
		}
	}
}

// P8.1: Tidy

func TestTidyKnown(t *testing.T) {
	isTidied(t, graph(2, one(str("a")), one(str("b")), seq(0, 2)), seq(1, 0), one(str("a")))
	isTidied(t, graph(1, one(null()), one(str("a"))), one(str("a")))
	isTidied(t, graph(2, seq(0), seq(1), seq(2, 2)), seq(0, 0))
	isTidied(t, graph(0, keyed(texts("ba"), 0, 1), one(integer(5))), keyed(texts("ab"), 1, 0), one(integer(5)))
	isTidied(t, graph(0, keyed(texts("ba"), 1, 2), one(integer(5)), one(integer(6))), keyed(texts("ab"), 1, 2), one(integer(6)), one(integer(5)))
	isTidied(t, graph(3, seq(0), keyed(nil), seq(), seq(2, 1, 2)), seq(1, 2, 1), seq(), keyed(nil))
	// Nodes that say the same stay two.
	isTidied(t, graph(0, seq(2, 1), one(null()), one(null())), seq(1, 2), one(null()), one(null()))
	isTidied(t, graph(1, seq(1), seq(0)), seq(1), seq(0))
	// Keys that rise otherwise than by their texts alone.
	isTidied(t, graph(0, keyed(keys(str("a"), integer(10), null(), integer(9), boolean(0)), 0, 0, 0, 0, 0)),
		keyed(keys(null(), boolean(0), integer(9), integer(10), str("a")), 0, 0, 0, 0, 0))
}

// TestTidyEachScalar: as an X, and as a key.
func TestTidyEachScalar(t *testing.T) {
	for _, x := range scalars() {
		isTidied(t, graph(2, keyed(keys(x), 1), one(x), seq(1, 0)), seq(1, 2), one(x), keyed(keys(x), 1))
	}
}

// P8.1: IsTidy

func TestIsTidyKnown(t *testing.T) {
	isTidy(t, true, graph(0, one(null())))
	isTidy(t, true, graph(0, seq(0)))
	isTidy(t, true, graph(0, seq(0, 1, 0, 2, 1), one(null()), one(null())))
	isTidy(t, true, graph(0, keyed(texts("ab"), 1, 0), one(null())))
	isTidy(t, true, graph(0, seq(1), seq(2), seq(0, 3), keyed(texts("ab"), 3, 0)))
	isTidy(t, true, graph(0, seq(1, 3), seq(2), one(null()), one(null())))
	isTidy(t, true, api.Graph{L: []api.Node{{Kind: api.Map, Keys: []api.Scalar{}, Kids: []int{}}}})

	// The Root is another one, though each node is come to.
	isTidy(t, false, graph(1, seq(1), seq(0)))
	isTidy(t, false, graph(1, one(null()), seq(0)))
	isTidy(t, false, graph(1, seq(0), one(null())))
	isTidy(t, false, graph(2, seq(1), seq(2), seq(0)))
	// A node is not come to: the last one, or one ahead of others.
	isTidy(t, false, graph(0, one(null()), one(null())))
	isTidy(t, false, graph(0, seq(1), one(null()), seq(1)))
	isTidy(t, false, graph(0, seq(2), one(null()), one(null())))
	isTidy(t, false, graph(0, seq(1), one(null()), seq(0, 1, 2)))
	// All are come to, in another order.
	isTidy(t, false, graph(0, seq(2, 1), one(null()), one(null())))
	isTidy(t, false, graph(0, seq(1, 2), seq(3), one(null()), one(null())))
	isTidy(t, false, graph(0, seq(1, 2, 3), seq(3), one(null()), one(null())))
	// A map's keys do not rise, wherever it stands, and whatever its kids are.
	isTidy(t, false, graph(0, keyed(texts("ba"), 0, 0)))
	isTidy(t, false, graph(0, keyed(texts("ba"), 1, 1), one(null())))
	isTidy(t, false, graph(0, keyed(texts("ba"), 2, 1), one(null()), one(null())))
	isTidy(t, false, graph(0, keyed(texts("acb"), 1, 1, 1), one(null())))
	isTidy(t, false, graph(0, seq(1, 2), one(null()), keyed(texts("ba"), 1, 1)))
	isTidy(t, false, graph(0, keyed(keys(integer(10), integer(9)), 0, 0)))
	isTidy(t, false, graph(0, keyed(keys(str("a"), null()), 0, 0)))
	// It would be tidy, if it were right.
	isTidy(t, false, graph(0))
	isTidy(t, false, graph(0, api.Node{X: str("\xff")}))
	isTidy(t, false, graph(0, keyed(texts("aa"), 0, 0)))
	isTidy(t, false, graph(0, seq(1), api.Node{Kids: []int{0}}))
	isTidy(t, false, graph(0, api.Node{Kind: api.Seq, X: str("a")}))
}

// TestIsTidyMoved: of a tidy graph, two nodes at each other's places, or a node more.
func TestIsTidyMoved(t *testing.T) {
	g := graph(0, seq(1, 3), keyed(texts("ab"), 2, 0), one(str("x")), seq(3, 4, 5), seq(1), keyed(texts("a"), 6), one(null()))
	isTidy(t, true, g)
	n := len(g.L)
	for i := range n {
		for k := range i {
			h := filled(g)
			h.L[i], h.L[k] = h.L[k], h.L[i]
			move := func(place int) int {
				switch place {
				case i:
					return k
				case k:
					return i
				}
				return place
			}
			h.Root = move(h.Root)
			for at := range h.L {
				for number, kid := range h.L[at].Kids {
					h.L[at].Kids[number] = move(kid)
				}
			}
			isTidy(t, false, h)
			isTidied(t, h, g.L...)
		}
	}
	for _, x := range []api.Node{one(null()), seq(0), seq(n), keyed(texts("ab"), 0, n)} {
		h := filled(g)
		h.L = append(h.L, x)
		isTidy(t, false, h)
		isTidied(t, h, g.L...)
	}
}

// eachOrder are all orders of the numbers from 0 to n-1, the one that rises first.
func eachOrder(n int) [][]int {
	var l [][]int
	var lay func(order []int)
	lay = func(order []int) {
		if len(order) == n {
			l = append(l, slices.Clone(order))
			return
		}
		for i := range n {
			if !slices.Contains(order, i) {
				lay(append(order, i))
			}
		}
	}
	lay(nil)
	return l
}

// TestAllOrders: of a map's keys, of its kids, and of a list's kids, just one is tidy.
func TestAllOrders(t *testing.T) {
	const n = 6
	rising := keys(null(), boolean(1), integer(-1), integer(10), str("10"), str("a"))
	for i, order := range eachOrder(n) {
		var l []api.Scalar
		var places, same []int
		for _, number := range order {
			l = append(l, rising[number])
			places = append(places, number+1)
			same = append(same, 0)
		}
		for _, x := range []api.Node{keyed(l, same...), keyed(l, places...), keyed(rising, places...), seq(places...)} {
			count := n
			if x.Kids[0] == 0 {
				count = 0
			}
			g := graph(0, append([]api.Node{x}, make([]api.Node, count)...)...)
			isTidy(t, i == 0, g)
			for number := range n {
				want := number + 1
				switch {
				case x.Kids[0] == 0:
					want = 0
				case x.Kind == api.Seq || slices.Equal(x.Keys, rising):
					want = x.Kids[number]
				}
				isAt(t, want, g, number)
			}
		}
	}
}

// P8.1, P8.2: all small graphs

// eachNode are some that are right among n.
func eachNode(n int) []api.Node {
	l := []api.Node{one(null()), one(str("a")), seq(), keyed(nil)}
	for i := range n {
		l = append(l, seq(i), keyed(texts("a"), i))
		for k := range n {
			l = append(l, seq(i, k), keyed(texts("ab"), i, k), keyed(texts("ba"), i, k))
		}
	}
	return l
}

// TestAllSmall: of at most three nodes, and any Root.
func TestAllSmall(t *testing.T) {
	paths := eachPath(2)
	count, tidy := 0, 0
	look := func(g api.Graph) {
		holds(t, g, paths...)
		count++
		if reach.IsTidy(g) {
			tidy++
		}
	}
	for _, a := range eachNode(1) {
		look(graph(0, a))
	}
	for root := range 2 {
		for _, a := range eachNode(2) {
			for _, b := range eachNode(2) {
				look(graph(root, a, b))
			}
		}
	}
	for root := range 3 {
		for _, a := range eachNode(3) {
			for _, b := range eachNode(3) {
				for _, c := range eachNode(3) {
					look(graph(root, a, b, c))
				}
			}
		}
	}
	if tidy == 0 || tidy > count/4 {
		t.Error(tidy, "of", count)
	}
}

// TestSomeLarge: of up to 200 nodes, with paths.
func TestSomeLarge(t *testing.T) {
	c := chance(5)
	walked, far := 0, 0
	for round := range 6000 {
		n := 1 + c.below(20)
		if round%10 == 0 {
			n = 1 + c.below(api.MaxNodes)
		}
		g := someRight(&c, n, round%2 == 0)
		var paths [][]int
		for range 6 {
			path := somePath(&c, g, 12)
			if at(g, path...).ok && len(path) > 3 {
				far++
			}
			paths = append(paths, path)
		}
		holds(t, g, paths...)
		l, _ := reach.Walk(g)
		walked = max(walked, len(l))
	}
	if walked < 60 || far < 1000 {
		t.Error(walked, far)
	}
}

// P8.1, P8.2: what is not right

// TestWrongNode: wherever it stands, walked to or not.
func TestWrongNode(t *testing.T) {
	isRefused(t, api.ErrGraph, api.Graph{})
	for _, x := range wrongNodes() {
		for n := range 5 {
			for place := range n + 1 {
				for root := range n + 1 {
					l := make([]api.Node, n)
					for i := range l {
						l[i] = seq(0, n)
					}
					isRefused(t, api.ErrGraph, graph(root, slices.Insert(l, place, x)...))
					isRefused(t, api.ErrGraph, graph(root, slices.Insert(make([]api.Node, n), place, x)...))
				}
			}
		}
	}
}

func TestWrongRoot(t *testing.T) {
	for n := range 5 {
		for _, root := range []int{math.MinInt, -1 << 32, -n - 1, -2, -1, n, n + 1, 200, 256, 1 << 32, math.MaxInt} {
			isRefused(t, api.ErrGraph, api.Graph{Root: root, L: make([]api.Node, n)})
		}
	}
}

// TestLimit: more nodes than are right are told ahead of all else; as many are right.
func TestLimit(t *testing.T) {
	for _, n := range []int{201, 202, 255, 256, 257, 456, 1 << 16} {
		for _, root := range []int{0, n - 1, n, -1, math.MaxInt} {
			g := api.Graph{Root: root, L: make([]api.Node, n)}
			isRefused(t, api.ErrLimit, g)
			g.L[0], g.L[n-1] = seq(-1), api.Node{Kind: 3}
			isRefused(t, api.ErrLimit, g)
		}
	}
	for n := 190; n <= api.MaxNodes; n++ {
		var chain, back, star api.Graph
		var rising, falling, kids []int
		for i := range n {
			chain.L = append(chain.L, seq(min(i+1, n-1), 0))
			back.L = append(back.L, seq(max(i-1, 0), n-1))
			star.L = append(star.L, one(integer(i)))
			rising, falling, kids = append(rising, i), append(falling, n-1-i), append(kids, n-1-i)
		}
		back.Root = n - 1
		star.L[0] = seq(kids...)
		isTidy(t, true, chain)
		isWalked(t, chain, rising...)
		isTidy(t, false, back)
		isWalked(t, back, falling...)
		isTidy(t, false, star)
		isWalked(t, star, append([]int{0}, falling[:n-1]...)...)
	}
}

// P8.2: At

func TestAtKnown(t *testing.T) {
	g := graph(2, one(str("a")), one(str("b")), seq(0, 2))
	isAt(t, 2, g)
	isAt(t, 0, g, 0)
	isAt(t, 2, g, 1)
	isAt(t, 2, g, 1, 1, 1, 1)
	isAt(t, 0, g, 1, 1, 1, 0)
	isLost(t, g, 2)
	isLost(t, g, -1)
	isLost(t, g, 0, 0)
	isLost(t, g, 1, 2)
	isLost(t, g, 1, -1)
	isLost(t, g, 2, 1)
	isLost(t, g, -1, 1)
	isLost(t, g, 0, 0, 1)
	isLost(t, g, 0, -1)

	// A map's kids are numbered as its keys rise.
	h := graph(0, keyed(texts("cab"), 1, 2, 3), one(str("c")), seq(0, 0, 4), keyed(keys(str(""), null()), 0, 4), seq())
	isAt(t, 2, h, 0)
	isAt(t, 3, h, 1)
	isAt(t, 1, h, 2)
	isLost(t, h, 3)
	isAt(t, 4, h, 0, 2)
	isAt(t, 4, h, 1, 0)
	isAt(t, 0, h, 1, 1)
	isAt(t, 1, h, 1, 1, 2)
	isAt(t, 3, h, 0, 1, 1)
	isLost(t, h, 1, 2)
	isLost(t, h, 0, 2, 0)
	isLost(t, h, 2, 0)

	isAt(t, 0, graph(0, one(null())))
	isLost(t, graph(0, one(null())), 0)
	isLost(t, graph(0, seq()), 0)
	isLost(t, graph(0, keyed(nil)), 0)
}

// TestAtEachNumber: of a list, and of a map, that have n kids.
func TestAtEachNumber(t *testing.T) {
	for n := range 12 {
		var kids []int
		var l []api.Scalar
		for i := range n {
			kids = append(kids, n-i)
			l = append(l, integer(-i))
		}
		nulls := make([]api.Node, n)
		list := graph(0, append([]api.Node{seq(kids...)}, nulls...)...)
		keyed := graph(0, append([]api.Node{keyed(l, kids...)}, nulls...)...)
		for _, number := range []int{math.MinInt, -1 << 32, 1 - 1<<32, -2, -1, 0, 1, 2, 3, n - 1, n, n + 1, -n, 200, 256, 1 << 32, 1<<32 + 1, 1 << 62, math.MaxInt} {
			if number >= 0 && number < n {
				isAt(t, n-number, list, number)
				isAt(t, number+1, keyed, number)
				continue
			}
			isLost(t, list, number)
			isLost(t, keyed, number)
		}
	}
}

// TestAtNoList: a path of no numbers leads to the Root, nil or empty.
func TestAtNoList(t *testing.T) {
	for n := 1; n < 5; n++ {
		for root := range n {
			g := api.Graph{Root: root, L: make([]api.Node, n)}
			for _, path := range [][]int{nil, {}, make([]int, 0, 2)} {
				isAt(t, root, g, path...)
			}
		}
	}
}

// R5: long lists, and long paths

// TestLong: a path comes to nodes with many kids, often.
func TestLong(t *testing.T) {
	const n = 1 << 18
	kids, l := make([]int, n), make([]api.Scalar, n)
	for i := range n {
		kids[i], l[i] = i%3, integer(n-i)
	}
	kids[n-1] = 3
	g := graph(1, seq(kids...), keyed(l, kids...), one(str(strings.Repeat("a", 1<<20))), one(null()))
	if got, e := reach.Walk(g); !slices.Equal(got, []int{1, 3, 2, 0}) || e != api.OK {
		t.Error(got, e)
	}
	h, e := reach.Tidy(g)
	if e != api.OK || !sameByRule(h, tidyByRule(g)) || !reach.IsTidy(h) || reach.IsTidy(g) {
		t.Error(e)
	}
	// From the list a number leads to the kid at just that place, from the map to the one as far from the end.
	var path []int
	for i := range n {
		if i%2 == 0 {
			path = append(path, n-1)
		} else {
			path = append(path, 4)
		}
	}
	if got := at(g, path...); got != (found{1, true}) {
		t.Error(got)
	}
	for _, end := range []found{{n - 1, true}, {n - 2, true}, {n - 3, true}, {0, true}, {n, false}, {-1, false}} {
		want := found{kids[(n-1-end.at+n)%n], end.ok}
		if !end.ok {
			want = found{}
		}
		if got := at(g, append(path, end.at)...); got != want {
			t.Error(end, got, want)
		}
	}
}

// R3

// TestNothingIsWritten: neither into lists that are handed in, nor into their spare room.
func TestNothingIsWritten(t *testing.T) {
	letters := texts("edcbaz")
	kids := []int{1, 0, 2, 1, 0, 77}
	path := []int{0, 1, 0, 0, 9}
	for n := range len(kids) {
		nodes := []api.Node{{Kind: api.Map, Keys: letters[:n], Kids: kids[:n]}, {Kind: api.Seq, Kids: kids[:n]}, one(str("a")), {Kind: 9}}
		old := filled(api.Graph{L: nodes})
		for m := range len(nodes) + 1 {
			for root := range 3 {
				g := api.Graph{Root: root, L: nodes[:m]}
				for k := range path {
					holds(t, g, path[:k])
				}
				got := tell(t, g)
				clear(got.walk)
				_ = append(got.walk, 5, 5)
				for i := range got.tidy.L {
					x := &got.tidy.L[i]
					clear(x.Keys)
					clear(x.Kids)
					_ = append(x.Keys, null(), null())
					_ = append(x.Kids, 5, 5)
					*x = api.Node{Kind: 7}
				}
				_ = append(got.tidy.L, api.Node{}, api.Node{})
			}
		}
		if !sameByRule(old, api.Graph{L: nodes}) || !slices.Equal(letters, texts("edcbaz")) || !slices.Equal(kids, []int{1, 0, 2, 1, 0, 77}) || !slices.Equal(path, []int{0, 1, 0, 0, 9}) {
			t.Fatal(n, nodes, letters, kids, path)
		}
	}
}

// memory is what was met of it.
type memory struct {
	kids  map[*int]bool
	keys  map[*api.Scalar]bool
	nodes map[*api.Node]bool
	texts map[*byte]bool
}

// isNew tells whether none of a list's memory was met, its spare room neither, and keeps it as met.
func isNew[T any](met map[*T]bool, l []T) bool {
	was := false
	for i := range l[:cap(l)] {
		at := &l[:cap(l)][i]
		was = was || met[at]
		met[at] = true
	}
	return !was
}

func (m memory) isNewText(s string) bool {
	if s == "" {
		return true
	}
	at := unsafe.StringData(s)
	was := m.texts[at]
	m.texts[at] = true
	return !was
}

func (m memory) isNewGraph(g api.Graph) bool {
	all := isNew(m.nodes, g.L)
	for _, x := range g.L {
		all = isNew(m.kids, x.Kids) && all
		all = isNew(m.keys, x.Keys) && all
		all = m.isNewText(x.X.S) && all
		for _, key := range x.Keys {
			all = m.isNewText(key.S) && all
		}
	}
	return all
}

// TestAnswersAreNewMemory: no list of an answer shares any with another one, nor with what is handed in; nor do texts.
func TestAnswersAreNewMemory(t *testing.T) {
	word := "abcdef"
	kids := []int{1, 0, 2, 3, 1, 0, 2, 2}
	l := keys(str(word[3:4]), str(word[1:2]), str(word[2:3]), null(), str(word[4:5]), str(word[5:]))
	graphs := []api.Graph{
		graph(1, seq(kids[:3]...), keyed(l[:3:3], kids[3:6]...), seq(kids[6:7:7]...), one(str(word[:1])), seq(kids...)),
		// Tidy ones, with maps and lists of no kids, one, and some.
		graph(0, keyed(keys(str(word[:2]), str(word[1:3])), 1, 2), seq(0, 1), one(str(word[2:4]))),
		graph(0, seq()),
		graph(0, keyed(nil)),
		graph(0, one(str(word[3:]))),
	}
	m := memory{map[*int]bool{}, map[*api.Scalar]bool{}, map[*api.Node]bool{}, map[*byte]bool{}}
	for _, g := range graphs {
		m.isNewGraph(g)
		want := filled(g)
		for range 3 {
			walk, _ := reach.Walk(g)
			h, _ := reach.Tidy(g)
			if !isNew(m.kids, walk) || !m.isNewGraph(h) {
				t.Errorf("%v: old memory", g)
			}
		}
		if !sameByRule(g, want) {
			t.Errorf("%v, not %v", g, want)
		}
	}
}

// TestNothingIsKept: what is handed in may be changed, and answers stay as they are.
func TestNothingIsKept(t *testing.T) {
	g := graph(0, keyed(texts("ba"), 1, 2), seq(0), one(str("x")))
	want := tidyByRule(g)
	walk, _ := reach.Walk(g)
	h, _ := reach.Tidy(g)
	g.L[0].Keys[0], g.L[0].Kids[0], g.L[1].Kids[0] = str("A"), 2, 1
	g.L[2] = seq(1)
	if !slices.Equal(walk, []int{0, 2, 1}) || !sameByRule(h, want) {
		t.Error(walk, h)
	}
	holds(t, g, nil, []int{0}, []int{1}, []int{1, 0, 0})
	isWalked(t, g, 0, 2, 1)
	isAt(t, 2, g, 0)
	isAt(t, 2, g, 1)
	isAt(t, 1, g, 1, 0, 0)
}

// P8.3

// TestTidyOfTidy: a tidy graph is its own tidy one, each other one's is tidy, and no other graph is its own.
func TestTidyOfTidy(t *testing.T) {
	c := chance(13)
	other := 0
	for round := range 5000 {
		g := someRight(&c, 1+c.below(15), round%2 == 0)
		h, e := reach.Tidy(g)
		if e != api.OK || !reach.IsTidy(h) || reach.IsTidy(g) != arena.Same(g, h) {
			t.Fatalf("%v: %v, %d", g, h, e)
		}
		if at, e := arena.Check(h); at != 0 || e != api.OK {
			t.Fatalf("%v: %v", g, h)
		}
		if k, e := reach.Tidy(h); e != api.OK || !arena.Same(h, k) {
			t.Fatalf("%v: %v, %d", h, k, e)
		}
		if !reach.IsTidy(g) {
			other++
		}
	}
	if other < 1000 {
		t.Error("only", other, "that are not tidy")
	}
}

// TestPathsOfTidy: each path leads in both to nodes of the same scalar, kind and keys, at the place of the walk.
func TestPathsOfTidy(t *testing.T) {
	c := chance(17)
	there := 0
	for round := range 3000 {
		g := someRight(&c, 1+c.below(15), round%2 == 0)
		h, _ := reach.Tidy(g)
		walk, _ := reach.Walk(g)
		for range 10 {
			path := somePath(&c, g, 8)
			a, b := at(g, path...), at(h, path...)
			if a.ok != b.ok {
				t.Fatalf("%v, %v: %v: %v, %v", g, h, path, a, b)
			}
			if !a.ok {
				continue
			}
			there++
			x, y := g.L[a.at], h.L[b.at]
			l, _ := arena.Keys(g, a.at)
			if walk[b.at] != a.at || x.Kind != y.Kind || x.X != y.X || len(x.Kids) != len(y.Kids) || !slices.Equal(l, y.Keys) {
				t.Fatalf("%v, %v: %v: %v, %v", g, h, path, a, b)
			}
		}
	}
	if there < 10000 {
		t.Error("only", there, "paths")
	}
}

// R1, R4

// TestAnyGraphs: of any fields, right or not.
func TestAnyGraphs(t *testing.T) {
	kinds := []int{math.MinInt, -1, 3, 256, 1 << 32, math.MaxInt}
	places := []int{math.MinInt, -1 << 32, -2, -1, 0, 1, 2, 3, 4, 5, 256, 1 << 32, math.MaxInt}
	some := append(scalars(), str("\xff"), api.Scalar{Kind: 9}, api.Scalar{Kind: -1}, integer(math.MinInt))
	c := chance(3)
	right := 0
	for range 60000 {
		n := c.below(5)
		g := api.Graph{Root: c.below(max(n, 1)), L: make([]api.Node, n)}
		if c.below(9) == 0 {
			g.Root = places[c.below(len(places))]
		}
		for i := range g.L {
			x := &g.L[i]
			x.Kind = c.below(3)
			if c.below(16) == 0 {
				x.Kind = kinds[c.below(len(kinds))]
			}
			if x.Kind == api.One || c.below(16) == 0 {
				x.X = some[c.below(len(some))]
			}
			count := c.below(4)
			for range count {
				kid := c.below(n)
				if c.below(16) == 0 {
					kid = places[c.below(len(places))]
				}
				if x.Kind != api.One || c.below(9) == 0 {
					x.Kids = append(x.Kids, kid)
				}
				if x.Kind == api.Map || c.below(9) == 0 {
					x.Keys = append(x.Keys, some[c.below(len(some))])
				}
			}
		}
		holds(t, g, nil, []int{0}, []int{1}, []int{c.below(3), c.below(3)}, []int{places[c.below(len(places))]})
		if _, e := reach.Walk(g); e == api.OK {
			right++
		}
	}
	if right < 5000 {
		t.Error("only", right, "right ones")
	}
}

// TestSameAnswersAgain: what is answered hangs on nothing else.
func TestSameAnswersAgain(t *testing.T) {
	c := chance(23)
	var graphs []api.Graph
	for range 300 {
		graphs = append(graphs, someRight(&c, 1+c.below(30), true))
	}
	for i, x := range wrongNodes() {
		graphs = append(graphs, graph(i%2, x, one(null())))
	}
	var first []string
	for round := range 4 {
		for i, g := range graphs {
			got := fmt.Sprint(tell(t, g), at(g), at(g, 0), at(g, 1, 0), strconv.Itoa(i))
			if round == 0 {
				first = append(first, got)
			} else if got != first[i] {
				t.Errorf("%v: %s, not %s", g, got, first[i])
			}
		}
	}
}
