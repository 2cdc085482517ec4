package arena_test

import (
	"cmp"
	"fmt"
	"math"
	"reflect"
	"slices"
	"strconv"
	"strings"
	"testing"
	"unicode/utf8"
	"unsafe"

	"sigillary/api"
	"sigillary/arena"
)

func null() api.Scalar         { return api.Scalar{Kind: api.Null} }
func boolean(n int) api.Scalar { return api.Scalar{Kind: api.Bool, N: n} }
func integer(n int) api.Scalar { return api.Scalar{Kind: api.Int, N: n} }
func str(s string) api.Scalar  { return api.Scalar{Kind: api.Str, S: s} }

func one(x api.Scalar) api.Node { return api.Node{Kind: api.One, X: x} }
func seq(kids ...int) api.Node  { return api.Node{Kind: api.Seq, Kids: kids} }

// keyed is a map of some keys, the first one of which is that of the first kid.
func keyed(keys []api.Scalar, kids ...int) api.Node {
	return api.Node{Kind: api.Map, Keys: keys, Kids: kids}
}

func keys(l ...api.Scalar) []api.Scalar { return l }

// texts are Strs, one for each letter.
func texts(letters string) []api.Scalar {
	var l []api.Scalar
	for _, r := range letters {
		l = append(l, str(string(r)))
	}
	return l
}

func graph(root int, l ...api.Node) api.Graph { return api.Graph{Root: root, L: l} }

// nulls are some nodes that are right.
func nulls(n int) []api.Node { return make([]api.Node, n) }

// scalarByRule says whether that is a scalar (chapter 5).
func scalarByRule(x api.Scalar) bool {
	switch {
	case x == null(), x == boolean(0), x == boolean(1):
		return true
	case x.Kind == 2:
		return x.S == "" && x.N >= -999999999999999 && x.N <= 999999999999999
	case x.Kind == 3:
		return x.N == 0 && utf8.ValidString(x.S)
	}
	return false
}

// orderByRule is chapter 6's: by kind, then number, then text.
func orderByRule(a, b api.Scalar) int {
	return cmp.Or(cmp.Compare(a.Kind, b.Kind), cmp.Compare(a.N, b.N), strings.Compare(a.S, b.S))
}

// rightByRule says whether a node is right among n of them.
func rightByRule(x api.Node, n int) bool {
	for _, kid := range x.Kids {
		if kid < 0 || kid >= n {
			return false
		}
	}
	for i, a := range x.Keys {
		if !scalarByRule(a) {
			return false
		}
		for _, b := range x.Keys[:i] {
			if orderByRule(a, b) == 0 {
				return false
			}
		}
	}
	switch x.Kind {
	case 0:
		return scalarByRule(x.X) && len(x.Keys)+len(x.Kids) == 0
	case 1:
		return x.X == null() && len(x.Keys) == 0
	case 2:
		return x.X == null() && len(x.Keys) == len(x.Kids)
	}
	return false
}

// fault is what Check answers.
type fault struct {
	at int
	e  api.Errno
}

func checkByRule(g api.Graph) fault {
	if len(g.L) > 200 {
		return fault{0, 71}
	}
	if g.Root < 0 || g.Root >= len(g.L) {
		return fault{-1, 70}
	}
	for i, x := range g.L {
		if !rightByRule(x, len(g.L)) {
			return fault{i, 70}
		}
	}
	return fault{}
}

// told is what Kids and Keys answer of a node.
type told struct {
	kids []int
	keys []api.Scalar
	e    api.Errno
}

// toldByRule takes the least key that is left, the first one of those that are the same, again and again.
func toldByRule(g api.Graph, i int) told {
	if i < 0 || i >= len(g.L) {
		return told{e: 2}
	}
	x := g.L[i]
	switch {
	case x.Kind == 1:
		return told{kids: x.Kids}
	case x.Kind != 2 || len(x.Keys) != len(x.Kids):
		return told{}
	}
	var out told
	taken := map[int]bool{}
	for range x.Keys {
		least := -1
		for k := range x.Keys {
			if !taken[k] && (least < 0 || orderByRule(x.Keys[k], x.Keys[least]) < 0) {
				least = k
			}
		}
		taken[least] = true
		out.keys = append(out.keys, x.Keys[least])
		out.kids = append(out.kids, x.Kids[least])
	}
	return out
}

// found is what Find answers.
type found struct {
	kid int
	ok  bool
}

func foundByRule(g api.Graph, i int, key api.Scalar) found {
	if i < 0 || i >= len(g.L) || g.L[i].Kind != 2 {
		return found{}
	}
	x := g.L[i]
	at := slices.IndexFunc(x.Keys, func(k api.Scalar) bool { return orderByRule(k, key) == 0 })
	if at < 0 || at >= len(x.Kids) {
		return found{}
	}
	return found{x.Kids[at], true}
}

func check(g api.Graph) fault {
	at, e := arena.Check(g)
	return fault{at, e}
}

func tell(t *testing.T, g api.Graph, i int) told {
	t.Helper()
	kids, e := arena.Kids(g, i)
	l, f := arena.Keys(g, i)
	if e != f {
		t.Errorf("%.200v at %d: Kids tells %d, Keys %d", g, i, e, f)
	}
	return told{kids, l, e}
}

func find(g api.Graph, i int, key api.Scalar) found {
	kid, ok := arena.Find(g, i, key)
	return found{kid, ok}
}

func sameTold(a, b told) bool {
	return slices.Equal(a.kids, b.kids) && slices.Equal(a.keys, b.keys) && a.e == b.e
}

// isRight says whether a graph is right, as its rule says.
func isRight(t *testing.T, g api.Graph) {
	t.Helper()
	if got := check(g); got != (fault{}) || checkByRule(g) != (fault{}) {
		t.Errorf("%.200v: %v", g, got)
	}
}

// isWrong says whether a graph is not right: at that place, as its rule says.
func isWrong(t *testing.T, g api.Graph, at int) {
	t.Helper()
	if got, want := check(g), (fault{at, api.ErrGraph}); got != want || checkByRule(g) != want {
		t.Errorf("%.200v: %v, not %v", g, got, want)
	}
}

// isTold says whether a node's kids and keys are those, as their rule says.
func isTold(t *testing.T, g api.Graph, i int, kids []int, l []api.Scalar) {
	t.Helper()
	want := told{kids, l, api.OK}
	if got := tell(t, g, i); !sameTold(got, want) || !sameTold(toldByRule(g, i), want) {
		t.Errorf("%.200v at %d: %v, not %v", g, i, got, want)
	}
}

// isFound says whether that is the kid under a key, as its rule says.
func isFound(t *testing.T, g api.Graph, i int, key api.Scalar, kid int) {
	t.Helper()
	if got, want := find(g, i, key), (found{kid, true}); got != want || foundByRule(g, i, key) != want {
		t.Errorf("%.200v at %d: %v: %v, not %v", g, i, key, got, want)
	}
}

// isLost says whether there is none under a key.
func isLost(t *testing.T, g api.Graph, i int, key api.Scalar) {
	t.Helper()
	if got := find(g, i, key); got != (found{}) || foundByRule(g, i, key) != (found{}) {
		t.Errorf("%.200v at %d: %v: %v", g, i, key, got)
	}
}

// holds says whether all calls answer of a graph what their rules say.
func holds(t *testing.T, g api.Graph, looked ...api.Scalar) {
	t.Helper()
	if got, want := check(g), checkByRule(g); got != want {
		t.Errorf("%.300v: %v, not %v", g, got, want)
	}
	for i := -1; i <= len(g.L); i++ {
		if got, want := tell(t, g, i), toldByRule(g, i); !sameTold(got, want) {
			t.Errorf("%.300v at %d: %v, not %v", g, i, got, want)
		}
		for _, key := range looked {
			if got, want := find(g, i, key), foundByRule(g, i, key); got != want {
				t.Errorf("%.300v at %d: %v: %v, not %v", g, i, key, got, want)
			}
		}
	}
}

// copied is a graph in memory of its own.
func copied(g api.Graph) api.Graph {
	l := make([]api.Node, len(g.L))
	for i, x := range g.L {
		l[i] = api.Node{Kind: x.Kind, X: x.X, Keys: slices.Clone(x.Keys), Kids: slices.Clone(x.Kids)}
	}
	return api.Graph{Root: g.Root, L: l}
}

// chance are numbers that look like it.
type chance uint32

func (c *chance) below(n int) int {
	*c = *c*1664525 + 1013904223
	return int(*c>>8) % n
}

// Fields at which something changes, and their neighbours; of the scalars, some that are right and some that are not.
var (
	kindEdges   = []int{math.MinInt, -1 << 32, -3, -2, -1, api.One, api.Seq, api.Map, 3, 4, 256, 258, 1 << 32, 1<<32 + 1, 1<<32 + 2, math.MaxInt}
	placeEdges  = []int{math.MinInt, -1 << 32, -2, -1, 0, 1, 2, 3, 4, 5, 256, 1 << 32, 1<<32 + 1, math.MaxInt}
	scalarEdges = []api.Scalar{
		null(), boolean(0), boolean(1), integer(-api.MaxNum), integer(-1), integer(0), integer(1), integer(api.MaxNum), str(""), str("a"), str("b"), str("\u00e9"), str("\x00"),
		{N: 1}, {N: -1}, {S: "a"}, boolean(-1), boolean(2), {Kind: 1, S: "a"}, integer(-api.MaxNum - 1), integer(api.MaxNum + 1), integer(math.MinInt), integer(math.MaxInt), {Kind: 2, S: "1"}, {Kind: 3, N: 1}, {Kind: 3, N: -1, S: "a"}, str("\xff"), str("a\xc3"), str("\xed\xa0\x80"), {Kind: -1}, {Kind: 4}, {Kind: math.MaxInt}, {Kind: 1 << 32},
	}
)

func TestNumbers(t *testing.T) {
	if api.ErrArg != 2 || api.ErrGraph != 70 || api.ErrLimit != 71 || api.MaxNodes != 200 || api.One != 0 || api.Seq != 1 || api.Map != 2 {
		t.Error(api.ErrArg, api.ErrGraph, api.ErrLimit, api.MaxNodes, api.One, api.Seq, api.Map)
	}
}

// P7.1: Check

func TestCheckKnown(t *testing.T) {
	isRight(t, graph(0, seq(0, 1), one(integer(5))))
	isRight(t, graph(0, one(null())))
	isRight(t, graph(0, seq()))
	isRight(t, graph(0, keyed(nil)))
	isRight(t, graph(0, api.Node{Kind: api.Map, Keys: []api.Scalar{}, Kids: []int{}}))
	isRight(t, graph(0, api.Node{Kind: api.One, Keys: []api.Scalar{}, Kids: []int{}}))
	isRight(t, graph(0, api.Node{Kind: api.Seq, Keys: []api.Scalar{}, Kids: []int{}}))
	isRight(t, graph(2, one(str("a")), seq(0, 0, 0), keyed(texts("ba"), 1, 1)))
	// Nodes that the Root doesn't come to, and ones that say the same.
	isRight(t, graph(1, one(null()), one(null()), seq(2), seq(3)))
	// Keys of all kinds, in any order.
	isRight(t, graph(0, keyed(keys(str("a"), null(), integer(-1), boolean(1), str(""), boolean(0), integer(0), str("null")), 0, 0, 0, 0, 0, 0, 0, 0)))

	isWrong(t, graph(0), -1)
	isWrong(t, graph(0, seq(0, 1)), 0)
	isWrong(t, graph(0, one(null()), api.Node{Kind: 3}), 1)
	isWrong(t, graph(0, keyed(texts("aa"), 0, 0)), 0)
	isWrong(t, graph(0, keyed(texts("a"))), 0)
	isWrong(t, graph(0, keyed(nil, 0)), 0)
}

func TestCheckRoot(t *testing.T) {
	for n := range 5 {
		for _, root := range append(placeEdges, n-1, n, n+1, -n, -n-1) {
			g := api.Graph{Root: root, L: nulls(n)}
			if root >= 0 && root < n {
				isRight(t, g)
			} else {
				isWrong(t, g, -1)
			}
		}
	}
	// The Root is told ahead of the nodes.
	for _, root := range []int{-1, 2, math.MaxInt, math.MinInt} {
		isWrong(t, graph(root, api.Node{Kind: 7}, seq(9)), -1)
	}
	isWrong(t, graph(1, api.Node{Kind: 7}, seq(9)), 0)
}

func TestCheckKinds(t *testing.T) {
	for _, kind := range kindEdges {
		g := graph(0, one(null()), api.Node{Kind: kind})
		if kind == api.One || kind == api.Seq || kind == api.Map {
			isRight(t, g)
		} else {
			isWrong(t, g, 1)
		}
	}
}

// TestCheckEachField: of each kind, with any X, keys and kids.
func TestCheckEachField(t *testing.T) {
	keyLists := [][]api.Scalar{nil, {}, texts("a"), texts("ab"), texts("ba"), texts("aa"), texts("aba"), keys(null()), keys(null(), null()), keys(str("\xff")), keys(str("a"), api.Scalar{Kind: 4})}
	kidLists := [][]int{nil, {}, {0}, {1}, {0, 1}, {1, 1}, {0, 0, 0}, {-1}, {2}, {0, -1}, {0, 2}, {2, 0}, {0, 1, 2}, {math.MinInt}, {math.MaxInt, 0}}
	right := 0
	for _, kind := range []int{-1, 0, 1, 2, 3} {
		for _, x := range scalarEdges {
			for _, l := range keyLists {
				for _, kids := range kidLists {
					g := graph(0, one(null()), api.Node{Kind: kind, X: x, Keys: l, Kids: kids})
					holds(t, g, str("a"), str("b"))
					if check(g).e == api.OK {
						right++
					}
				}
			}
		}
	}
	// Scalars of 13 values, with empty lists in four ways; lists of some kids without keys, in two; maps of none, one, two.
	if want := 13*4 + 2*7 + (2*2 + 2*2 + 2*2); right != want {
		t.Error(right, "not", want)
	}
}

func TestCheckScalars(t *testing.T) {
	for i, x := range scalarEdges {
		asX, asKey, asSeq := graph(0, one(x)), graph(0, keyed(keys(x), 0)), graph(0, api.Node{Kind: api.Seq, X: x})
		asMap := graph(0, api.Node{Kind: api.Map, X: x})
		if i < 13 {
			isRight(t, asX)
			isRight(t, asKey)
			isRight(t, graph(0, keyed(keys(str("z"), x, str("y")), 0, 0, 0)))
		} else {
			isWrong(t, asX, 0)
			isWrong(t, asKey, 0)
			for at := range 4 {
				isWrong(t, graph(1, one(null()), keyed(slices.Insert(texts("xyz"), at, x), 0, 1, 0, 1)), 1)
			}
		}
		if i == 0 {
			isRight(t, asSeq)
			isRight(t, asMap)
		} else {
			isWrong(t, asSeq, 0)
			isWrong(t, asMap, 0)
		}
	}
}

// TestCheckKids: wherever one stands that is no place of a node.
func TestCheckKids(t *testing.T) {
	for n := 1; n < 6; n++ {
		for _, kid := range append(placeEdges, n-1, n) {
			for at := range 5 {
				kids := make([]int, 4)
				kids = slices.Insert(kids, at, kid)
				for _, x := range []api.Node{seq(kids...), keyed(texts("edcba"), kids...)} {
					g := api.Graph{L: append([]api.Node{x}, nulls(n-1)...)}
					if kid >= 0 && kid < n {
						isRight(t, g)
					} else {
						isWrong(t, g, 0)
					}
				}
			}
		}
	}
}

// TestCheckSameKeys: wherever both stand.
func TestCheckSameKeys(t *testing.T) {
	const n = 26
	letters := texts("abcdefghijklmnopqrstuvwxyz")
	kids := make([]int, n)
	isRight(t, graph(0, keyed(letters, kids...)))
	for i := range n {
		for k := range i {
			l := slices.Clone(letters)
			l[i] = l[k]
			isWrong(t, graph(0, keyed(l, kids...)), 0)
		}
	}
	for i, x := range scalarEdges[:13] {
		for k, y := range scalarEdges[:13] {
			if g := graph(0, keyed(keys(x, y), 0, 0)); i == k {
				isWrong(t, g, 0)
			} else {
				isRight(t, g)
			}
		}
	}
	// Texts in different memory, that say the same.
	isWrong(t, graph(0, keyed(keys(str("abc"), str(strings.Clone("abc"))), 0, 0)), 0)
}

// TestCheckCounts: of a map's keys and kids.
func TestCheckCounts(t *testing.T) {
	letters := texts("abcdefgh")
	for n := range len(letters) {
		for m := range len(letters) {
			g := graph(0, keyed(letters[:n], make([]int, m)...))
			if n == m {
				isRight(t, g)
			} else {
				isWrong(t, g, 0)
			}
		}
	}
}

// TestCheckFirstPlace: of all nodes that are not right, the first one is told.
func TestCheckFirstPlace(t *testing.T) {
	wrong := []api.Node{{Kind: 3}, {Kind: -1}, one(str("\xff")), {Kids: []int{0}}, {Keys: texts("a")}, seq(-1), seq(99), {Kind: api.Seq, X: str("a")}, {Kind: api.Seq, Keys: texts("a")}, keyed(texts("a")), keyed(texts("aa"), 0, 0), keyed(texts("a"), 99), {Kind: api.Map, X: boolean(1)}}
	const n = 7
	for set := range 1 << n {
		l := nulls(n)
		first := n
		for i := range n {
			if set>>i&1 == 1 {
				l[i] = wrong[(i+set)%len(wrong)]
				first = min(first, i)
			}
		}
		for root := range n {
			if first == n {
				isRight(t, graph(root, l...))
			} else {
				isWrong(t, graph(root, l...), first)
			}
		}
	}
	for _, x := range wrong {
		for at := range api.MaxNodes {
			if at > 10 && at < 190 {
				continue
			}
			l := nulls(api.MaxNodes)
			l[at] = x
			if x.Kids != nil && x.Kids[0] == 99 {
				l[at].Kids = []int{api.MaxNodes}
			}
			isWrong(t, graph(0, l...), at)
			l[api.MaxNodes-1] = api.Node{Kind: 3}
			isWrong(t, graph(0, l...), at)
		}
	}
}

// TestCheckLimit: how many nodes there are is told ahead of all else.
func TestCheckLimit(t *testing.T) {
	for _, n := range []int{1, 2, 127, 128, 199, 200} {
		g := api.Graph{Root: n - 1, L: nulls(n)}
		isRight(t, g)
		g.L[n-1] = seq(0, n-1)
		isRight(t, g)
		g.L[0] = seq(n)
		isWrong(t, g, 0)
	}
	for _, n := range []int{201, 202, 255, 256, 257, 400, 456, 1000, 65536, 65537, 1<<16 + 200} {
		want := fault{0, api.ErrLimit}
		for _, root := range []int{0, -1, n - 1, n, math.MinInt, math.MaxInt} {
			g := api.Graph{Root: root, L: nulls(n)}
			if got := check(g); got != want || checkByRule(g) != want {
				t.Error(n, root, got)
			}
			g.L[0], g.L[n-1] = api.Node{Kind: 3}, seq(-1)
			if got := check(g); got != want {
				t.Error(n, root, got)
			}
		}
	}
}

// TestCheckAllSmall: all graphs of at most two nodes, of some fields, and any Root.
func TestCheckAllSmall(t *testing.T) {
	var nodes []api.Node
	for _, kind := range []int{-1, 0, 1, 2, 3} {
		for _, x := range []api.Scalar{null(), str("a"), {Kind: 4}} {
			for _, l := range [][]api.Scalar{nil, texts("b"), texts("ba"), texts("aa"), {{N: 1}}} {
				for _, kids := range [][]int{nil, {0}, {1}, {2}, {-1}, {1, 0}, {0, 2}} {
					nodes = append(nodes, api.Node{Kind: kind, X: x, Keys: l, Kids: kids})
				}
			}
		}
	}
	for root := -1; root <= 2; root++ {
		for _, a := range nodes {
			g := graph(root, a)
			if got, want := check(g), checkByRule(g); got != want {
				t.Errorf("%v: %v, not %v", g, got, want)
			}
			for _, b := range nodes {
				g := graph(root, a, b)
				if got, want := check(g), checkByRule(g); got != want {
					t.Errorf("%v: %v, not %v", g, got, want)
				}
			}
		}
	}
}

// TestCheckLong: many keys and kids, and long texts, in a few nodes.
func TestCheckLong(t *testing.T) {
	const n = 1 << 18
	kids, l := make([]int, n), make([]api.Scalar, n)
	for i := range n {
		kids[i], l[i] = i%3, integer(n-i)
		if i%2 == 0 {
			l[i] = str(strconv.Itoa(i))
		}
	}
	g := graph(0, seq(kids...), keyed(l, kids...), one(str(strings.Repeat("a", 1<<22))))
	if got := check(g); got != (fault{}) {
		t.Error(got)
	}
	for place, spoil := range []func(g api.Graph){
		func(g api.Graph) { g.L[0].Kids[n-1] = 3 },
		func(g api.Graph) { g.L[1].Keys[n-1] = g.L[1].Keys[0] },
		func(g api.Graph) { g.L[2].X.S += "\xff" },
	} {
		h := copied(g)
		spoil(h)
		if got := check(h); got != (fault{place, api.ErrGraph}) {
			t.Error(place, got)
		}
	}
}

// P7.1: Same

func sameByRule(a, b api.Graph) bool {
	filled := func(g api.Graph) api.Graph {
		l := []api.Node{}
		for _, x := range g.L {
			l = append(l, api.Node{Kind: x.Kind, X: x.X, Keys: append([]api.Scalar{}, x.Keys...), Kids: append([]int{}, x.Kids...)})
		}
		return api.Graph{Root: g.Root, L: l}
	}
	return reflect.DeepEqual(filled(a), filled(b))
}

func isSame(t *testing.T, want bool, a, b api.Graph) {
	t.Helper()
	if got := arena.Same(a, b); got != want || arena.Same(b, a) != want || sameByRule(a, b) != want {
		t.Errorf("%.200v, %.200v: %v", a, b, got)
	}
}

// someGraphs are some, right or not, no two the same.
func someGraphs() []api.Graph {
	nodes := []api.Node{one(null()), one(str("a")), one(str("b")), one(boolean(0)), one(integer(0)), one(integer(1)), {Kind: -1}, {Kind: 3}, seq(), seq(0), seq(1), seq(-1), seq(0, 0), seq(0, 1), seq(1, 0), {Kind: api.Seq, X: str("a")}, {Kind: api.Seq, Keys: texts("a")},
		keyed(nil), keyed(texts("a")), keyed(nil, 0), keyed(texts("a"), 0), keyed(texts("a"), 1), keyed(texts("b"), 0), keyed(texts("ab"), 0, 0), keyed(texts("ba"), 0, 0), keyed(texts("ab"), 0, 1), keyed(texts("ba"), 1, 0), keyed(texts("aa"), 0, 0), {Kids: []int{0}}, {Keys: texts("a")}, {Keys: keys(null())}, {X: api.Scalar{Kind: 1 << 32}}, {Kind: 1 << 32}, {Kind: 7, X: str("\xff"), Keys: keys(api.Scalar{Kind: 9}), Kids: []int{math.MinInt}}}
	l := []api.Graph{graph(0), graph(1), graph(-1), graph(math.MaxInt), graph(1 << 32)}
	for _, x := range nodes {
		l = append(l, graph(0, x), graph(1, x), graph(0, x, one(null())), graph(0, one(str("z")), x), graph(0, one(str("z")), x, x))
	}
	return l
}

func TestSameKnown(t *testing.T) {
	isSame(t, true, graph(0), api.Graph{})
	isSame(t, true, graph(-3), api.Graph{Root: -3, L: []api.Node{}})
	isSame(t, true, graph(0, seq(0, 1), one(integer(5))), graph(0, seq(0, 1), one(integer(5))))
	isSame(t, false, graph(0, seq(0, 1), one(integer(5))), graph(1, seq(0, 1), one(integer(5))))
	// Laid otherwise, though they say the same.
	isSame(t, false, graph(0, seq(1), one(null())), graph(1, one(null()), seq(0)))
	isSame(t, false, graph(0, keyed(texts("ab"), 0, 1), one(null())), graph(0, keyed(texts("ba"), 1, 0), one(null())))
	isSame(t, false, graph(0, seq(0)), graph(0, seq(1), seq(0)))
	isSame(t, false, graph(0, one(null())), graph(0, one(null()), one(null())))
}

// TestSameEach: of many, right or not, each is the same as itself alone.
func TestSameEach(t *testing.T) {
	l := someGraphs()
	for i, a := range l {
		for k, b := range l {
			isSame(t, i == k, a, copied(b))
		}
	}
}

// TestSameEachField: a graph with one field changed is another one.
func TestSameEachField(t *testing.T) {
	g := graph(1, one(str("a")), keyed(texts("ba"), 2, 0), seq(0, 1, 2))
	changes := []func(h *api.Graph){
		func(h *api.Graph) { h.Root = 0 },
		func(h *api.Graph) { h.L = h.L[:2] },
		func(h *api.Graph) { h.L = append(h.L, api.Node{}) },
		func(h *api.Graph) { h.L = nil },
		func(h *api.Graph) { h.L[0], h.L[2] = h.L[2], h.L[0] },
	}
	for i := range g.L {
		changes = append(changes,
			func(h *api.Graph) { h.L[i].Kind++ },
			func(h *api.Graph) { h.L[i].X.Kind++ },
			func(h *api.Graph) { h.L[i].X.N-- },
			func(h *api.Graph) { h.L[i].X.S += "\x00" },
			func(h *api.Graph) { h.L[i].Keys = append(h.L[i].Keys, null()) },
			func(h *api.Graph) { h.L[i].Kids = append(h.L[i].Kids, 0) },
		)
	}
	for i := range 2 {
		changes = append(changes,
			func(h *api.Graph) { h.L[1].Keys[i].Kind = 0 },
			func(h *api.Graph) { h.L[1].Keys[i].N = 1 },
			func(h *api.Graph) { h.L[1].Keys[i].S = "c" },
			func(h *api.Graph) { h.L[1].Kids[i]-- },
			func(h *api.Graph) { h.L[2].Kids[i+1] = 0 },
		)
	}
	changes = append(changes,
		func(h *api.Graph) { h.L[1].Keys = h.L[1].Keys[:1] },
		func(h *api.Graph) { h.L[1].Kids = h.L[1].Kids[:1] },
		func(h *api.Graph) { h.L[2].Kids = nil },
	)
	for i, change := range changes {
		h := copied(g)
		isSame(t, true, g, h)
		change(&h)
		if arena.Same(g, h) || arena.Same(h, g) {
			t.Error(i, h)
		}
	}
}

// TestSameNilAndEmpty: they are one, wherever they stand.
func TestSameNilAndEmpty(t *testing.T) {
	for _, kind := range kindEdges {
		isSame(t, true, graph(0, api.Node{Kind: kind}), graph(0, api.Node{Kind: kind, Keys: []api.Scalar{}, Kids: []int{}}))
		isSame(t, true, graph(0, api.Node{Kind: kind, Keys: []api.Scalar{}}), graph(0, api.Node{Kind: kind, Kids: make([]int, 0, 9)}))
		isSame(t, false, graph(0, api.Node{Kind: kind}), graph(0, api.Node{Kind: kind, Kids: []int{0}}))
		isSame(t, false, graph(0, api.Node{Kind: kind}), graph(0, api.Node{Kind: kind, Keys: keys(null())}))
	}
}

// TestSameLimitless: graphs may have more nodes than are right.
func TestSameLimitless(t *testing.T) {
	g := api.Graph{Root: -1, L: nulls(1 << 16)}
	h := copied(g)
	isSame(t, true, g, h)
	h.L[1<<16-1].X.N = 1
	isSame(t, false, g, h)
}

// P7.2: Kids and Keys

func TestKidsKnown(t *testing.T) {
	isTold(t, graph(0, seq(0, 1), one(integer(5))), 0, []int{0, 1}, nil)
	isTold(t, graph(0, seq(0, 1), one(integer(5))), 1, nil, nil)
	isTold(t, graph(0, seq(3, 1, 2, 1)), 0, []int{3, 1, 2, 1}, nil)
	isTold(t, graph(0, keyed(texts("cab"), 7, 8, 9)), 0, []int{8, 9, 7}, texts("abc"))
	isTold(t, graph(0, keyed(texts("abc"), 2, 1, 0)), 0, []int{2, 1, 0}, texts("abc"))
	isTold(t, graph(0, keyed(keys(str("a"), integer(10), str(""), boolean(1), integer(-1), null(), boolean(0), str("B")), 0, 1, 2, 3, 4, 5, 6, 7)), 0,
		[]int{5, 6, 3, 4, 1, 2, 7, 0}, keys(null(), boolean(0), boolean(1), integer(-1), integer(10), str(""), str("B"), str("a")))
	isTold(t, graph(0, keyed(nil)), 0, nil, nil)
	isTold(t, graph(0, seq()), 0, nil, nil)
}

// TestKidsOfWhatIsNotRight: they are told as they are laid.
func TestKidsOfWhatIsNotRight(t *testing.T) {
	isTold(t, graph(-9, seq(-1, math.MaxInt, math.MinInt, 5)), 0, []int{-1, math.MaxInt, math.MinInt, 5}, nil)
	isTold(t, graph(0, keyed(texts("ba"), 99, -1)), 0, []int{-1, 99}, texts("ab"))
	// Of Keys that are the same the first one comes first.
	isTold(t, graph(0, keyed(texts("aa"), 5, 4)), 0, []int{5, 4}, texts("aa"))
	isTold(t, graph(0, keyed(texts("bababa"), 0, 1, 2, 3, 4, 5)), 0, []int{1, 3, 5, 0, 2, 4}, texts("aaabbb"))
	isTold(t, graph(0, keyed(texts("bababa"), 5, 4, 3, 2, 1, 0)), 0, []int{4, 2, 0, 5, 3, 1}, texts("aaabbb"))
	// Keys that are no scalars.
	isTold(t, graph(0, keyed(keys(str("\xff"), api.Scalar{Kind: 9}, api.Scalar{Kind: -9, S: "z"}, integer(math.MinInt), str("a")), 0, 1, 2, 3, 4)), 0,
		[]int{2, 3, 4, 0, 1}, keys(api.Scalar{Kind: -9, S: "z"}, integer(math.MinInt), str("a"), str("\xff"), api.Scalar{Kind: 9}))
	// Maps of which some keys have no kid, or some kids no key.
	isTold(t, graph(0, keyed(texts("ab"), 0)), 0, nil, nil)
	isTold(t, graph(0, keyed(texts("a"), 0, 1)), 0, nil, nil)
	isTold(t, graph(0, keyed(texts("a"))), 0, nil, nil)
	isTold(t, graph(0, keyed(nil, 0)), 0, nil, nil)
	// What a kind may not have changes nothing, nor does what another node has.
	isTold(t, graph(0, api.Node{Kind: api.Seq, X: str("a"), Keys: texts("ba"), Kids: []int{1, 0}}), 0, []int{1, 0}, nil)
	isTold(t, graph(0, api.Node{Kind: api.One, Keys: texts("ba"), Kids: []int{1, 0}}), 0, nil, nil)
	isTold(t, graph(0, api.Node{Kind: api.Map, X: str("a"), Keys: texts("ba"), Kids: []int{1, 0}}, api.Node{Kind: 9}), 0, []int{0, 1}, texts("ab"))
}

func TestKidsOfEachKind(t *testing.T) {
	for _, kind := range kindEdges {
		g := graph(0, one(null()), api.Node{Kind: kind, Keys: texts("ba"), Kids: []int{1, 0}})
		switch kind {
		case api.Seq:
			isTold(t, g, 1, []int{1, 0}, nil)
		case api.Map:
			isTold(t, g, 1, []int{0, 1}, texts("ab"))
		default:
			isTold(t, g, 1, nil, nil)
			isLost(t, g, 1, str("a"))
		}
	}
}

// TestKidsAtNoPlace: neither below the first one, nor behind the last one.
func TestKidsAtNoPlace(t *testing.T) {
	for n := range 6 {
		l := nulls(n)
		for i := range l {
			l[i] = keyed(texts("ba"), 10*i, 10*i+1)
		}
		for _, i := range append(placeEdges, n-1, n, n+1, -n, -n-1) {
			g := graph(i, l...)
			if i >= 0 && i < n {
				isTold(t, g, i, []int{10*i + 1, 10 * i}, texts("ab"))
				isFound(t, g, i, str("b"), 10*i)
				continue
			}
			if got, want := tell(t, g, i), (told{e: api.ErrArg}); !sameTold(got, want) || !sameTold(toldByRule(g, i), want) {
				t.Error(n, i, got)
			}
			isLost(t, g, i, str("b"))
			isLost(t, g, i, null())
		}
	}
	// Any graph has places: of more nodes than are right too.
	g := api.Graph{Root: -1, L: nulls(1000)}
	g.L[999] = seq(5, 4)
	isTold(t, g, 999, []int{5, 4}, nil)
	if got := tell(t, g, 1000); got.e != api.ErrArg {
		t.Error(got)
	}
}

// TestKeysInAllOrders: of some scalars.
func TestKeysInAllOrders(t *testing.T) {
	rising := keys(null(), boolean(0), integer(-2), integer(10), str(""), str("10"), str("a"))
	var lay func(l []api.Scalar, kids []int)
	lay = func(l []api.Scalar, kids []int) {
		if len(l) == len(rising) {
			isTold(t, graph(0, keyed(l, kids...)), 0, []int{0, 1, 2, 3, 4, 5, 6}, rising)
			return
		}
		for i, x := range rising {
			if !slices.Contains(kids, i) {
				lay(append(slices.Clone(l), x), append(slices.Clone(kids), i))
			}
		}
	}
	lay(nil, nil)
}

// TestKeysAllShort: of all lists of a few keys, each as often as it is there, with too few and too many kids.
func TestKeysAllShort(t *testing.T) {
	some := keys(null(), integer(-1), str("a"), api.Scalar{S: "z"}, api.Scalar{Kind: 9})
	var lay func(l []api.Scalar, left int)
	lay = func(l []api.Scalar, left int) {
		for n := max(0, len(l)-2); n <= len(l)+2; n++ {
			kids := make([]int, n)
			for i := range kids {
				kids[i] = 40 - i*7
			}
			holds(t, graph(0, keyed(l, kids...)), some...)
		}
		if left == 0 {
			return
		}
		for _, x := range some {
			lay(append(slices.Clone(l), x), left-1)
		}
	}
	lay(nil, 4)
}

// TestKeysThatAreTheSame: of many the first one stays first, however many there are.
func TestKeysThatAreTheSame(t *testing.T) {
	for n := range 70 {
		for _, of := range []int{1, 2, 3, 7} {
			l, kids := make([]api.Scalar, n), make([]int, n)
			for i := range n {
				l[i], kids[i] = integer((i*5+n)%of), i
			}
			holds(t, graph(0, keyed(l, kids...)), integer(0), integer(1), integer(6))
		}
	}
}

func TestKidsLong(t *testing.T) {
	const n = 1 << 18
	l, kids := make([]api.Scalar, n), make([]int, n)
	rising, places := make([]api.Scalar, n), make([]int, n)
	for i := range n {
		at := i * 5 % n
		l[i], kids[i] = integer(at/2), i
		rising[i] = integer(i / 2)
		places[at] = i
	}
	// Each key stands twice: of both the one that is laid first comes first.
	for i := 0; i < n; i += 2 {
		slices.Sort(places[i : i+2])
	}
	g := graph(0, keyed(l, kids...), seq(kids...))
	if got := tell(t, g, 0); !sameTold(got, told{places, rising, api.OK}) {
		t.Error("a map")
	}
	if got := tell(t, g, 1); !sameTold(got, told{kids, nil, api.OK}) {
		t.Error("a list")
	}
	for _, i := range []int{0, 1, n / 4, n/2 - 1} {
		if got := find(g, 0, integer(i)); got != (found{places[2*i], true}) {
			t.Error(i, got)
		}
	}
	isLost(t, g, 0, integer(n/2))
}

// P7.2: Find

func TestFindKnown(t *testing.T) {
	g := graph(0, keyed(keys(str("b"), null(), str("a"), integer(0), boolean(0)), 10, 11, 12, 13, 0), seq(0), one(str("a")))
	isFound(t, g, 0, str("b"), 10)
	isFound(t, g, 0, null(), 11)
	isFound(t, g, 0, str("a"), 12)
	isFound(t, g, 0, integer(0), 13)
	isFound(t, g, 0, boolean(0), 0)
	for _, x := range []api.Scalar{str(""), str("B"), str("ab"), str("null"), str("0"), integer(1), integer(-1), boolean(1), {N: 1}, {S: "a"}, {Kind: 3, N: 1, S: "a"}, {Kind: 4, S: "a"}, {Kind: 1<<32 + 3, S: "a"}} {
		isLost(t, g, 0, x)
	}
	for _, x := range []api.Scalar{null(), str("a"), str(""), integer(0)} {
		isLost(t, g, 1, x)
		isLost(t, g, 2, x)
	}
}

// TestFindFirst: of keys that are the same.
func TestFindFirst(t *testing.T) {
	isFound(t, graph(0, keyed(texts("aa"), 5, 4)), 0, str("a"), 5)
	isFound(t, graph(0, keyed(texts("aa"), 4, 5)), 0, str("a"), 4)
	isFound(t, graph(0, keyed(texts("babab"), 0, 1, 2, 3, 4)), 0, str("a"), 1)
	isFound(t, graph(0, keyed(texts("babab"), 0, 1, 2, 3, 4)), 0, str("b"), 0)
}

// TestFindOfSomeKids: of a map that has fewer kids than keys, or fewer keys than kids, the keys that have a kid are looked at.
func TestFindOfSomeKids(t *testing.T) {
	letters := texts("dcbae")
	for n := range len(letters) + 1 {
		for m := range len(letters) + 3 {
			kids := make([]int, m)
			for i := range kids {
				kids[i] = 100 + i
			}
			g := graph(0, keyed(letters[:n], kids...))
			for i, x := range letters {
				if i < n && i < m {
					isFound(t, g, 0, x, 100+i)
				} else {
					isLost(t, g, 0, x)
				}
			}
		}
	}
	// The first one has a kid, the second one none.
	isFound(t, graph(0, keyed(texts("aa"), 7)), 0, str("a"), 7)
	isLost(t, graph(0, keyed(texts("baa"), 7)), 0, str("a"))
}

// TestFindOfAnyKeys: each is under its own fields alone, scalar or not, and whatever its kid's place is.
func TestFindOfAnyKeys(t *testing.T) {
	kids := make([]int, len(scalarEdges))
	for i := range kids {
		kids[i] = i - 5
	}
	kids[3], kids[4] = math.MinInt, math.MaxInt
	for n := range len(scalarEdges) + 1 {
		g := graph(-1, keyed(scalarEdges[:n], kids[:n]...))
		for i, x := range scalarEdges {
			if i < n {
				isFound(t, g, 0, x, kids[i])
			} else {
				isLost(t, g, 0, x)
			}
		}
	}
	isFound(t, graph(0, keyed(keys(str("abc")), 3)), 0, str("xabc"[1:]), 3)
}

// R3

// TestNothingIsWritten: neither into lists that are handed in, nor into their spare room.
func TestNothingIsWritten(t *testing.T) {
	letters := texts("edcbaz")
	kids := []int{1, 0, 2, 1, 0, 77}
	for n := range len(kids) {
		nodes := []api.Node{{Kind: api.Map, Keys: letters[:n], Kids: kids[:n]}, {Kind: api.Seq, Kids: kids[:n]}, one(str("a")), {Kind: 9}}
		for m := range len(nodes) + 1 {
			g := api.Graph{L: nodes[:m]}
			old := copied(api.Graph{L: nodes})
			holds(t, g, letters...)
			arena.Same(g, copied(g))
			for i := range m {
				got := tell(t, g, i)
				clear(got.kids)
				clear(got.keys)
				_ = append(got.kids, 5, 5)
				_ = append(got.keys, null(), null())
			}
			if !sameByRule(old, api.Graph{L: nodes}) || !slices.Equal(letters, texts("edcbaz")) || !slices.Equal(kids, []int{1, 0, 2, 1, 0, 77}) {
				t.Fatal(n, m, nodes, letters, kids)
			}
		}
	}
}

// TestAnswersAreNewMemory: no answer shares any with another one, nor with what is handed in; nor do keys' texts.
func TestAnswersAreNewMemory(t *testing.T) {
	word := "abc"
	g := graph(0, seq(1, 0, 1), keyed(keys(str(word[1:]), str(word[:1]), str(word[1:])), 0, 1, 1))
	want := copied(g)
	seenKids, seenKeys, seenTexts := map[*int]bool{}, map[*api.Scalar]bool{}, map[*byte]bool{}
	look := func(kids []int, l []api.Scalar) {
		t.Helper()
		for i := range kids[:cap(kids)] {
			at := &kids[:cap(kids)][i]
			if seenKids[at] {
				t.Error("a kid in old memory")
			}
			seenKids[at] = true
		}
		for i := range l[:cap(l)] {
			x := &l[:cap(l)][i]
			if seenKeys[x] || x.S != "" && seenTexts[unsafe.StringData(x.S)] {
				t.Error("a key in old memory")
			}
			seenKeys[x] = true
			seenTexts[unsafe.StringData(x.S)] = true
		}
	}
	for _, x := range g.L {
		for i := range x.Kids {
			seenKids[&x.Kids[i]] = true
		}
		for i := range x.Keys {
			seenKeys[&x.Keys[i]] = true
			seenTexts[unsafe.StringData(x.Keys[i].S)] = true
		}
	}
	for range 3 {
		for i := range g.L {
			got := tell(t, g, i)
			look(got.kids, got.keys)
		}
	}
	if !sameByRule(g, want) {
		t.Error(g)
	}
}

// P7.3

// someRight is a right graph of n nodes.
func someRight(c *chance, n int) api.Graph {
	l := make([]api.Node, n)
	for i := range l {
		kids := make([]int, c.below(6))
		for k := range kids {
			kids[k] = c.below(n)
		}
		switch c.below(3) {
		case 0:
			l[i] = one(scalarEdges[c.below(13)])
		case 1:
			l[i] = seq(kids...)
		default:
			from, step := c.below(13), 1+c.below(12)
			var some []api.Scalar
			for k := range kids {
				some = append(some, scalarEdges[(from+k*step)%13])
			}
			l[i] = keyed(some, kids...)
		}
	}
	return api.Graph{Root: c.below(n), L: l}
}

// TestWithoutTheLastNode: if that is not the Root, and no node's kid, what is left is right.
func TestWithoutTheLastNode(t *testing.T) {
	c := chance(7)
	left := 0
	for range 20000 {
		g := someRight(&c, 1+c.below(12))
		isRight(t, g)
		holds(t, g, scalarEdges[c.below(13)], scalarEdges[c.below(13)])
		last := len(g.L) - 1
		needed := g.Root == last
		for i, x := range g.L {
			needed = needed || i != last && slices.Contains(x.Kids, last)
		}
		h := api.Graph{Root: g.Root, L: g.L[:last]}
		if needed {
			if check(h).e != api.ErrGraph {
				t.Errorf("%v: %v", h, check(h))
			}
			continue
		}
		left++
		isRight(t, h)
		if arena.Same(g, h) {
			t.Errorf("%v", h)
		}
	}
	if left < 1000 {
		t.Error("only", left, "without the last node")
	}
}

// TestWithoutTheLastNodeWhateverItIs: of each kind, and a kid of itself too.
func TestWithoutTheLastNodeWhateverItIs(t *testing.T) {
	for _, x := range []api.Node{one(str("a")), seq(), seq(0, 1, 1), seq(2), keyed(texts("ba"), 0, 1), keyed(texts("ba"), 2, 2)} {
		g := graph(1, one(null()), seq(0, 1), x)
		isRight(t, g)
		g.L = g.L[:2]
		isRight(t, g)
	}
	isRight(t, graph(0, seq(1), one(null())))
	isWrong(t, graph(0, seq(1)), 0)
	isRight(t, graph(1, one(null()), one(null())))
	isWrong(t, graph(1, one(null())), -1)
}

// TestKeysRise: those that are told of a right graph, and each is found with the kid that is told at its place.
func TestKeysRise(t *testing.T) {
	c := chance(11)
	maps := 0
	for range 4000 {
		g := someRight(&c, 1+c.below(8))
		for i := range g.L {
			got := tell(t, g, i)
			if len(got.keys) == 0 {
				continue
			}
			maps++
			for k, x := range got.keys {
				if k > 0 && orderByRule(got.keys[k-1], x) >= 0 {
					t.Errorf("%v at %d: %v", g, i, got.keys)
				}
				if find(g, i, x) != (found{got.kids[k], true}) {
					t.Errorf("%v at %d: %v", g, i, x)
				}
			}
		}
	}
	if maps < 1000 {
		t.Error("only", maps, "maps")
	}
}

// TestAnyGraphs: of any fields, right or not.
func TestAnyGraphs(t *testing.T) {
	c := chance(3)
	for range 30000 {
		g := api.Graph{Root: placeEdges[c.below(len(placeEdges))], L: nulls(c.below(5))}
		for i := range g.L {
			x := &g.L[i]
			x.Kind = c.below(3)
			if c.below(8) == 0 {
				x.Kind = kindEdges[c.below(len(kindEdges))]
			}
			if c.below(4) == 0 {
				x.X = scalarEdges[c.below(len(scalarEdges))]
			}
			for range c.below(4) {
				x.Keys = append(x.Keys, scalarEdges[c.below(len(scalarEdges))])
			}
			for range c.below(4) {
				x.Kids = append(x.Kids, placeEdges[c.below(len(placeEdges))])
			}
		}
		holds(t, g, scalarEdges[c.below(len(scalarEdges))], scalarEdges[c.below(13)])
		isSame(t, true, g, copied(g))
	}
}

// TestSameAnswersAgain: nothing is kept.
func TestSameAnswersAgain(t *testing.T) {
	l := someGraphs()
	var first []string
	look := func(g api.Graph) string {
		var b strings.Builder
		fmt.Fprint(&b, check(g), arena.Same(g, l[0]))
		for i := range 4 {
			fmt.Fprint(&b, tell(t, g, i), find(g, i, str("a")))
		}
		return b.String()
	}
	for round := range 3 {
		for i, g := range l {
			got := look(g)
			if round == 0 {
				first = append(first, got)
			} else if got != first[i] {
				t.Errorf("%v: %s, not %s", g, got, first[i])
			}
		}
	}
}
