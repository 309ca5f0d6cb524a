package treap_test

import (
	"math"
	"slices"
	"testing"

	"deadbolt/api"
	"deadbolt/treap"
)

const (
	leastInt = math.MinInt
	mostInt  = math.MaxInt
	power32  = 1 << 32
	lastKey  = 1<<32 - 1
)

// unused fills the room behind the end of a tree's nodes, and is in no tree.
var unused = api.Node{Key: -987, Left: -654, Right: -321}

// roomy is the same tree, with room behind the end of its nodes.
func roomy(x api.Tree) api.Tree {
	room := make([]api.Node, len(x.Nodes)+5)
	copy(room, x.Nodes)
	for i := len(x.Nodes); i < len(room); i++ {
		room[i] = unused
	}
	return api.Tree{Root: x.Root, Nodes: room[:len(x.Nodes)]}
}

// checkKept holds that a roomy tree's nodes are as they were, and the room behind their end too.
func checkKept(t *testing.T, room, was api.Tree) {
	t.Helper()
	if !slices.Equal(room.Nodes, was.Nodes) {
		t.Fatalf("%v was changed to %v", was, room)
	}
	for _, n := range room.Nodes[len(was.Nodes) : len(was.Nodes)+5] {
		if n != unused {
			t.Fatalf("%v stands behind the end of %v", n, was)
		}
	}
}

// weigh is a key's weight, in numbers that are wide enough for all of it.
func weigh(key int) int {
	return int(uint64(key) * 2654435761 % power32)
}

// isKey tells whether a number is a key.
func isKey(n int) bool {
	return n >= 0 && n <= lastKey
}

// under is the keys that are come to from a place; false, if that is no way through a tree: it leads out of the nodes, or goes on for too long.
func under(x api.Tree, at int, steps *int) ([]int, bool) {
	if at == -1 {
		return nil, true
	}
	*steps++
	if at < 0 || at >= len(x.Nodes) || *steps > 64 {
		return nil, false
	}
	left, ok := under(x, x.Nodes[at].Left, steps)
	if !ok {
		return nil, false
	}
	right, ok := under(x, x.Nodes[at].Right, steps)
	return slices.Concat(left, []int{x.Nodes[at].Key}, right), ok
}

// comeTo is how often each node is linked to, the root's link with them.
func comeTo(x api.Tree) []int {
	times := make([]int, len(x.Nodes))
	links := []int{x.Root}
	for _, n := range x.Nodes {
		links = append(links, n.Left, n.Right)
	}
	for _, l := range links {
		if l >= 0 && l < len(times) {
			times[l]++
		}
	}
	return times
}

// mayBe tells whether a tree may be, by the chapter's words one after the other.
func mayBe(x api.Tree) bool {
	if len(x.Nodes) > 64 {
		return false
	}
	for _, n := range comeTo(x) {
		if n != 1 {
			return false
		}
	}
	steps := 0
	if all, ok := under(x, x.Root, &steps); !ok || len(all) != len(x.Nodes) {
		return false
	}
	for _, n := range x.Nodes {
		if !isKey(n.Key) {
			return false
		}
		for i, at := range []int{n.Left, n.Right} {
			if at == -1 {
				continue
			}
			steps := 0
			all, _ := under(x, at, &steps)
			for _, k := range all {
				if k == n.Key || (k > n.Key) != (i == 1) {
					return false
				}
			}
			if weigh(x.Nodes[at].Key) >= weigh(n.Key) {
				return false
			}
		}
	}
	return true
}

// depth is how many keys of a list are ahead of one of them: each that is the heaviest of those from it to that one.
func depth(list []int, key int) int {
	d := 0
	for _, ahead := range list {
		heaviest := ahead != key
		for _, k := range list {
			if k >= min(ahead, key) && k <= max(ahead, key) && weigh(k) > weigh(ahead) {
				heaviest = false
			}
		}
		if heaviest {
			d++
		}
	}
	return d
}

// tree is a tree of keys, whose nodes lie as a stride has it: one that is coprime to their number.
func tree(list []int, stride int) api.Tree {
	list = slices.Sorted(slices.Values(list))
	x := api.Tree{Root: -1, Nodes: make([]api.Node, len(list))}
	var lay func(from, till int) int
	lay = func(from, till int) int {
		if from == till {
			return -1
		}
		top := from
		for i := from; i < till; i++ {
			if weigh(list[i]) > weigh(list[top]) {
				top = i
			}
		}
		at := (top*stride + 2) % len(list)
		x.Nodes[at] = api.Node{Key: list[top], Left: lay(from, top), Right: lay(top+1, till)}
		return at
	}
	x.Root = lay(0, len(list))
	return x
}

// coprime is strides that lay so many nodes at as many places.
func coprime(n int) []int {
	var all []int
	for _, stride := range []int{1, 5, 7, 11, 61, 63} {
		a, b := n, stride
		for b != 0 {
			a, b = b, a%b
		}
		if a <= 1 {
			all = append(all, stride)
		}
	}
	return all
}

// upTo is n keys, from one on.
func upTo(from, n int) []int {
	l := make([]int, n)
	for i := range l {
		l[i] = from + i
	}
	return l
}

// spread is n unlike keys that lie all over, by a rule.
func spread(n, seed int) []int {
	var l []int
	for i := 0; len(l) < n; i++ {
		k := ((i+1)*(2*seed+1)*1000003 ^ seed*77777) % power32
		if !slices.Contains(l, k) {
			l = append(l, k)
		}
	}
	return l
}

// keySets is some sets of keys, of none to 64.
func keySets() [][]int {
	all := [][]int{nil, {0}, {1}, {lastKey}, {0, lastKey}, {1, 2, 3}, {0, 1, 2}, {5, 9, 4, 0}, {lastKey, lastKey - 1, lastKey - 2, 0, 1}}
	for _, n := range []int{2, 3, 7, 20, 62, 63, 64} {
		all = append(all, upTo(0, n), upTo(1, n), upTo(lastKey-n+1, n), spread(n, 3), spread(n, n))
	}
	return all
}

// asked is the keys that trees are asked for: the least and the greatest ints, the edges of keys, those of the list, and those next to them.
func asked(list []int) []int {
	all := []int{leastInt, leastInt + 1, -power32, -power32 + 1, -2, -1, 0, 1, 2, 3, 63, 64, 65, lastKey - 1, lastKey, power32, power32 + 1, power32 + 3, 1 << 33, mostInt - 1, mostInt}
	for _, k := range list {
		all = append(all, k-1, k, k+1)
	}
	slices.Sort(all)
	return slices.Compact(all)
}

// node is a node, written shortly.
func node(key, left, right int) api.Node {
	return api.Node{Key: key, Left: left, Right: right}
}

// of is a tree, written shortly.
func of(root int, nodes ...api.Node) api.Tree {
	return api.Tree{Root: root, Nodes: nodes}
}

// with is a tree with another node at a place.
func with(x api.Tree, at int, n api.Node) api.Tree {
	nodes := slices.Clone(x.Nodes)
	nodes[at] = n
	return of(x.Root, nodes...)
}

// wrongTrees is trees that may not be, each for one of the chapter's reasons; keys 3, 1 and 2 are heavy in this order.
func wrongTrees() []api.Tree {
	full := tree(upTo(0, 64), 5)
	all := []api.Tree{
		// An empty one's root is -1.
		{}, of(-2), of(0), of(1), of(leastInt), of(mostInt),
		// Roots and links that lead nowhere.
		of(-2, node(1, -1, -1)), of(1, node(1, -1, -1)), of(2, node(1, -1, -1)), of(leastInt, node(1, -1, -1)), of(mostInt, node(1, -1, -1)), of(power32, node(1, -1, -1)),
		of(0, node(1, -2, -1)), of(0, node(1, 1, -1)), of(0, node(1, leastInt, -1)), of(0, node(1, mostInt, -1)), of(0, node(1, power32, -1)),
		of(0, node(1, -1, -2)), of(0, node(1, -1, 1)), of(0, node(1, -1, leastInt)), of(0, node(1, -1, mostInt)), of(0, node(1, -1, power32)),
		of(0, node(3, 1, -1), node(1, -1, 2)), of(0, node(3, 1, -1), node(1, -2, -1)), of(0, node(3, 1, -1), node(1, -1, leastInt)),
		// Not come to.
		of(-1, node(1, -1, -1)), of(0, node(3, -1, -1), node(1, -1, -1)), of(0, node(3, 1, -1), node(1, -1, -1), node(2, -1, -1)), of(0, node(3, -1, -1), node(2, 2, -1), node(1, -1, -1)), of(-1, full.Nodes...),
		of(0, node(3, -1, -1), node(1, 2, -1), node(2, -1, 1)), of(0, node(3, -1, -1), node(1, 1, 1)),
		// Come to twice.
		of(0, node(3, 1, 1), node(1, -1, -1)), of(0, node(3, 1, 1), node(1, -1, -1), node(2, -1, -1)), of(0, node(1, -1, 1), node(2, 2, 2), node(3, -1, -1)), of(0, node(3, 1, 2), node(1, -1, 2), node(2, -1, -1)),
		// Going round.
		of(0, node(1, 0, -1)), of(0, node(1, -1, 0)), of(0, node(1, 0, 0)), of(0, node(3, 1, -1), node(1, -1, 0)), of(0, node(3, 1, -1), node(1, 0, -1)), of(0, node(3, 1, -1), node(1, -1, 1)), of(0, node(3, 1, -1), node(1, -1, 2), node(2, 1, -1)), of(0, node(3, 1, -1), node(1, -1, 2), node(2, 0, -1)),
		// Keys that are none.
		of(0, node(-1, -1, -1)), of(0, node(power32, -1, -1)), of(0, node(leastInt, -1, -1)), of(0, node(mostInt, -1, -1)), of(0, node(power32+3, -1, -1)), of(0, node(3, 1, -1), node(-1, -1, -1)), of(0, node(3, -1, 1), node(power32, -1, -1)), of(0, node(3, -1, 1), node(mostInt, -1, -1)), of(0, node(3, 1, -1), node(leastInt, -1, -1)),
		// Keys out of order, beside each other and further down.
		of(0, node(3, -1, 1), node(1, -1, -1)), of(0, node(1, 1, -1), node(2, -1, -1)), of(0, node(3, 1, -1), node(1, 2, -1), node(2, -1, -1)), of(0, node(3, 1, -1), node(1, -1, 2), node(7, -1, -1)), of(0, node(3, -1, 1), node(7, 2, -1), node(2, -1, -1)),
		// A key twice.
		of(0, node(3, 1, -1), node(3, -1, -1)), of(0, node(3, -1, 1), node(3, -1, -1)), of(0, node(0, 1, -1), node(0, -1, -1)), of(0, node(3, 1, 2), node(1, -1, -1), node(3, -1, -1)), of(0, node(3, 1, -1), node(1, -1, 2), node(3, -1, -1)), of(0, node(3, 1, 2), node(1, -1, 3), node(7, 4, -1), node(2, -1, -1), node(2, -1, -1)),
		// Weights out of order, beside each other and further down.
		of(0, node(1, -1, 1), node(3, -1, -1)), of(0, node(2, 1, 2), node(1, -1, -1), node(3, -1, -1)), of(0, node(3, 1, -1), node(2, 2, -1), node(1, -1, -1)), of(0, node(0, -1, 1), node(1, -1, -1)), of(0, node(2, 1, -1), node(1, -1, -1)),
		// Too many nodes.
		tree(upTo(0, 65), 1), tree(upTo(0, 65), 7), tree(upTo(0, 66), 7), tree(spread(200, 1), 7), of(-1, make([]api.Node, 65)...), of(0, make([]api.Node, 100000)...),
	}
	for _, root := range []int{-2, -1, 64, leastInt, mostInt} {
		all = append(all, of(root, full.Nodes...))
	}
	return all
}

// TestApi is of P8.1: the limits are those that package api names.
func TestApi(t *testing.T) {
	if api.Nil != -1 || api.MaxNodes != 64 || api.MaxKey != lastKey || api.Mix != 2654435761 {
		t.Error(api.Nil, api.MaxNodes, api.MaxKey, api.Mix)
	}
}

// TestExamples is of P8.1, P8.2 and P8.3: the chapter's.
func TestExamples(t *testing.T) {
	x := treap.New()
	for _, k := range []int{1, 2, 3} {
		x, _ = treap.Put(x, k)
	}
	for k, want := range map[int][2]int{1: {2654435761, 1}, 2: {1013904226, 2}, 3: {3668339987, 0}} {
		if d, e := treap.Find(x, k); d != want[1] || e != api.OK || treap.Pri(k) != want[0] {
			t.Errorf("%d: a weight of %d, and %d deep, %d", k, treap.Pri(k), d, e)
		}
	}
}

// TestPri is of P8.1 and P1: weights at the edges of keys and all over, and -1 beyond them.
func TestPri(t *testing.T) {
	for key, want := range map[int]int{0: 0, 1: 2654435761, 2: 1013904226, 3: 3668339987, lastKey: power32 - 2654435761, lastKey - 1: power32 - 1013904226, 1 << 31: 1 << 31} {
		if w := treap.Pri(key); w != want {
			t.Errorf("Pri(%d) = %d, not %d", key, w, want)
		}
	}
	for _, key := range append(asked(spread(2000, 8)), asked(upTo(0, 2000))...) {
		want := -1
		if isKey(key) {
			want = weigh(key)
		}
		if w := treap.Pri(key); w != want {
			t.Errorf("Pri(%d) = %d, not %d", key, w, want)
		}
	}
}

// TestUnlike is of P8.4: each key can be told from its weight alone, so that unlike ones have unlike weights.
func TestUnlike(t *testing.T) {
	back := uint32(1)
	for range 5 {
		back *= 2 - api.Mix*back
	}
	for _, key := range slices.Concat(upTo(0, 5000), spread(5000, 4), upTo(lastKey-5000, 5001), upTo(1<<31-500, 1000)) {
		if w := treap.Pri(key); w < 0 || w > lastKey || int(uint32(w)*back) != key {
			t.Errorf("Pri(%d) = %d, which is %d's", key, w, uint32(w)*back)
		}
	}
}

// TestNew is of P8.1: no nodes, and a root at -1.
func TestNew(t *testing.T) {
	if x := treap.New(); x.Root != -1 || len(x.Nodes) != 0 || !treap.Right(x) {
		t.Error(x)
	}
}

// checkRight holds what Right tells against what the chapter's words do.
func checkRight(t *testing.T, x api.Tree, want bool) {
	t.Helper()
	room := roomy(x)
	if is := treap.Right(room); is != want || treap.Right(x) != want {
		t.Fatalf("Right(%v) = %v", x, is)
	}
	checkKept(t, room, x)
}

// TestRight is of P8.1 and P1: trees that may be, and each way in which they may not.
func TestRight(t *testing.T) {
	for i, x := range wrongTrees() {
		if mayBe(x) {
			t.Errorf("%d: %v may be", i, x)
		}
		checkRight(t, x, false)
	}
	for _, x := range []api.Tree{
		of(-1), {Root: -1, Nodes: []api.Node{}}, of(0, node(0, -1, -1)), of(0, node(7, -1, -1)), of(0, node(lastKey, -1, -1)),
		of(0, node(3, 1, -1), node(1, -1, -1)), of(1, node(1, -1, -1), node(3, 0, -1)), of(0, node(1, 1, -1), node(0, -1, -1)), of(0, node(1, -1, 1), node(2, -1, -1)), of(0, node(3, 1, -1), node(1, -1, 2), node(2, -1, -1)), of(2, node(1, -1, 1), node(2, -1, -1), node(3, 0, -1)),
	} {
		if !mayBe(x) {
			t.Errorf("%v may not be", x)
		}
		checkRight(t, x, true)
	}
	for _, list := range keySets() {
		for _, stride := range coprime(len(list)) {
			checkRight(t, tree(list, stride), true)
		}
	}
	for _, stride := range []int{1, 11} {
		checkRight(t, tree(upTo(0, 63), stride), true)
		checkRight(t, tree(upTo(0, 64), stride), true)
		checkRight(t, tree(upTo(0, 65), stride), false)
	}
}

// TestRightOnSmall is of P8.1 and P1: all trees of at most two nodes with links and keys at their edges.
func TestRightOnSmall(t *testing.T) {
	links := []int{-2, -1, 0, 1, 2, leastInt, mostInt}
	numbers := []int{-1, 0, 1, 2, lastKey, power32}
	var nodes []api.Node
	for _, left := range links {
		for _, right := range links {
			for _, key := range numbers {
				nodes = append(nodes, node(key, left, right))
			}
		}
	}
	are := 0
	for _, root := range links {
		for _, a := range nodes {
			for _, b := range append(nodes, node(-99, 0, 0)) {
				x := of(root, a)
				if b.Key != -99 {
					x = of(root, a, b)
				}
				is := treap.Right(x)
				if is != mayBe(x) {
					t.Fatalf("Right(%v) = %v", x, is)
				}
				if is {
					are++
				}
			}
		}
	}
	// Four keys by themselves, and each two of them, whose nodes lie so or so.
	if are != 4+6*2 {
		t.Error(are)
	}
}

// TestRightOnThree is of P8.1, P8.4 and P1: of all trees of three nodes with three keys one shape may be, and its nodes may lie in six orders.
func TestRightOnThree(t *testing.T) {
	var nodes []api.Node
	for left := -1; left < 3; left++ {
		for right := -1; right < 3; right++ {
			for key := 1; key <= 3; key++ {
				nodes = append(nodes, node(key, left, right))
			}
		}
	}
	are := 0
	for root := -1; root < 3; root++ {
		for _, a := range nodes {
			for _, b := range nodes {
				for _, c := range nodes {
					x := of(root, a, b, c)
					is := treap.Right(x)
					if is != mayBe(x) {
						t.Fatalf("Right(%v) = %v", x, is)
					}
					if is {
						are++
					}
				}
			}
		}
	}
	if are != 6 {
		t.Error(are)
	}
}

// TestRightOneOff is of P8.1 and P1: trees of many nodes, of which one has another key or another link.
func TestRightOneOff(t *testing.T) {
	for _, list := range [][]int{upTo(0, 64), spread(64, 6), upTo(3, 63), spread(12, 2)} {
		x := tree(list, coprime(len(list))[1])
		for at, n := range x.Nodes {
			for _, l := range append(upTo(-2, len(list)+3), leastInt, mostInt, power32) {
				a, b := with(x, at, node(n.Key, l, n.Right)), with(x, at, node(n.Key, n.Left, l))
				checkRight(t, a, mayBe(a))
				checkRight(t, b, mayBe(b))
			}
			for _, k := range asked(list) {
				c := with(x, at, node(k, n.Left, n.Right))
				checkRight(t, c, mayBe(c))
			}
		}
	}
}

// checkTree holds that a tree is one of just these keys, each as deep as it is to be.
func checkTree(t *testing.T, x api.Tree, list []int) {
	t.Helper()
	if !mayBe(x) || !treap.Right(x) {
		t.Fatalf("%v may not be", x)
	}
	steps := 0
	if got, _ := under(x, x.Root, &steps); !slices.Equal(got, slices.Sorted(slices.Values(list))) {
		t.Fatalf("%v has %v, not %v", x, got, list)
	}
	var down func(at, d int)
	down = func(at, d int) {
		if at == -1 {
			return
		}
		if key := x.Nodes[at].Key; d != depth(list, key) {
			t.Fatalf("%v: %d is %d deep, not %d", x, key, d, depth(list, key))
		}
		down(x.Nodes[at].Left, d+1)
		down(x.Nodes[at].Right, d+1)
	}
	down(x.Root, 0)
}

// checkMade holds what Put or Del answered: an error with a tree that is zero, or a tree of these keys, which shares nothing with the one handed in.
func checkMade(t *testing.T, what string, room, was, got api.Tree, e, want api.Errno, list []int) {
	t.Helper()
	if e != want {
		t.Fatalf("%s: %v, %d, not %d", what, got, e, want)
	}
	if e != api.OK {
		if got.Root != 0 || len(got.Nodes) != 0 {
			t.Fatalf("%s: %d, with %v", what, e, got)
		}
	} else {
		checkTree(t, got, list)
	}
	whole := got.Nodes[:cap(got.Nodes)]
	for i := range whole {
		whole[i] = node(-77, -77, -77)
	}
	checkKept(t, room, was)
}

func checkPut(t *testing.T, x api.Tree, key int, want api.Errno, list []int) {
	t.Helper()
	room := roomy(x)
	got, e := treap.Put(room, key)
	checkMade(t, "Put", room, x, got, e, want, list)
}

func checkDel(t *testing.T, x api.Tree, key int, want api.Errno, list []int) {
	t.Helper()
	room := roomy(x)
	got, e := treap.Del(room, key)
	checkMade(t, "Del", room, x, got, e, want, list)
}

func checkFind(t *testing.T, x api.Tree, key, want int, e api.Errno) {
	t.Helper()
	room := roomy(x)
	if d, why := treap.Find(room, key); d != want || why != e {
		t.Fatalf("Find(%v, %d) = %d, %d, not %d, %d", x, key, d, why, want, e)
	}
	checkKept(t, room, x)
}

func checkNext(t *testing.T, x api.Tree, key, want int, e api.Errno) {
	t.Helper()
	room := roomy(x)
	if k, why := treap.Next(room, key); k != want || why != e {
		t.Fatalf("Next(%v, %d) = %d, %d, not %d, %d", x, key, k, why, want, e)
	}
	checkKept(t, room, x)
}

func checkKeys(t *testing.T, x api.Tree, want []int, e api.Errno) {
	t.Helper()
	room := roomy(x)
	l, why := treap.Keys(room)
	if !slices.Equal(l, want) || why != e {
		t.Fatalf("Keys(%v) = %v, %d, not %v, %d", x, l, why, want, e)
	}
	for i := range l[:cap(l)] {
		l[:cap(l)][i] = -77
	}
	checkKept(t, room, x)
}

// TestWrongTrees is of P8.1 and P1: trees that may not be, with keys, and with what is none; ahead of any other error.
func TestWrongTrees(t *testing.T) {
	for _, x := range wrongTrees() {
		checkKeys(t, x, nil, api.ErrArg)
		for _, key := range []int{leastInt, -1, 0, 1, 2, 3, 5, 63, 64, lastKey, power32, mostInt} {
			checkPut(t, x, key, api.ErrArg, nil)
			checkDel(t, x, key, api.ErrArg, nil)
			checkFind(t, x, key, 0, api.ErrArg)
			checkNext(t, x, key, 0, api.ErrArg)
		}
	}
}

// TestWrongKeys is of P8.1 and P1: keys that are none, on trees that may be, empty and full ones among them.
func TestWrongKeys(t *testing.T) {
	for _, list := range keySets() {
		x := tree(list, coprime(len(list))[0])
		for _, key := range []int{leastInt, leastInt + 1, -power32 + 1, -power32, -2, -1, power32, power32 + 1, power32 + 3, 1 << 40, mostInt - 1, mostInt} {
			checkPut(t, x, key, api.ErrArg, nil)
			checkDel(t, x, key, api.ErrArg, nil)
			checkFind(t, x, key, 0, api.ErrArg)
			checkNext(t, x, key, 0, api.ErrArg)
		}
	}
}

// TestAll is of P8.2, P8.3 and P8.4: all calls on trees of none to 64 keys, whose nodes lie in many orders, with each key, those next to it, and the edges.
func TestAll(t *testing.T) {
	for _, list := range keySets() {
		rising := slices.Sorted(slices.Values(list))
		for _, stride := range coprime(len(list)) {
			x := tree(list, stride)
			checkKeys(t, x, rising, api.OK)
			for _, key := range asked(list) {
				if !isKey(key) {
					continue
				}
				at, has := slices.BinarySearch(rising, key)
				if at < len(rising) {
					checkNext(t, x, key, rising[at], api.OK)
				} else {
					checkNext(t, x, key, 0, api.ErrNone)
				}
				switch {
				case has:
					checkPut(t, x, key, api.ErrTwice, nil)
					checkDel(t, x, key, api.OK, slices.Delete(slices.Clone(rising), at, at+1))
					checkFind(t, x, key, depth(list, key), api.OK)
					continue
				case len(list) == 64:
					checkPut(t, x, key, api.ErrFull, nil)
				default:
					checkPut(t, x, key, api.OK, append(slices.Clone(list), key))
				}
				checkDel(t, x, key, api.ErrNone, nil)
				checkFind(t, x, key, 0, api.ErrNone)
			}
		}
	}
}

// TestAtEdges is of P8.2 and P8.3: none, nil and empty, one, 63 and 64; a key that is there is told ahead of that there is no room.
func TestAtEdges(t *testing.T) {
	for _, x := range []api.Tree{treap.New(), {Root: -1}, {Root: -1, Nodes: []api.Node{}}} {
		checkKeys(t, x, nil, api.OK)
		for _, key := range []int{0, 1, lastKey} {
			checkPut(t, x, key, api.OK, []int{key})
			checkDel(t, x, key, api.ErrNone, nil)
			checkFind(t, x, key, 0, api.ErrNone)
			checkNext(t, x, key, 0, api.ErrNone)
		}
	}
	for _, key := range []int{0, 1, 5, lastKey} {
		x := of(0, node(key, -1, -1))
		checkKeys(t, x, []int{key}, api.OK)
		checkPut(t, x, key, api.ErrTwice, nil)
		checkDel(t, x, key, api.OK, nil)
		checkFind(t, x, key, 0, api.OK)
		checkNext(t, x, 0, key, api.OK)
		checkNext(t, x, key, key, api.OK)
	}
	almost, full := tree(upTo(0, 63), 5), tree(upTo(0, 64), 5)
	checkPut(t, almost, 63, api.OK, upTo(0, 64))
	checkPut(t, almost, lastKey, api.OK, append(upTo(0, 63), lastKey))
	checkPut(t, almost, 62, api.ErrTwice, nil)
	checkPut(t, full, 63, api.ErrTwice, nil)
	checkPut(t, full, 0, api.ErrTwice, nil)
	checkPut(t, full, 64, api.ErrFull, nil)
	checkPut(t, full, lastKey, api.ErrFull, nil)
	checkPut(t, full, -1, api.ErrArg, nil)
	checkPut(t, full, power32, api.ErrArg, nil)
	checkNext(t, full, 63, 63, api.OK)
	checkNext(t, full, 64, 0, api.ErrNone)
	checkNext(t, full, 0, 0, api.OK)
}

// checkSame holds that two trees have the same keys, each as deep in the one as in the other.
func checkSame(t *testing.T, a, b api.Tree) {
	t.Helper()
	l, _ := treap.Keys(a)
	if m, e := treap.Keys(b); !slices.Equal(l, m) || e != api.OK {
		t.Fatalf("%v, not %v", m, l)
	}
	for _, key := range l {
		d, _ := treap.Find(a, key)
		if n, e := treap.Find(b, key); d != n || e != api.OK {
			t.Fatalf("%d is %d deep, and %d, %d", key, d, n, e)
		}
	}
}

// TestInAnyOrder is of P8.4: keys that come rising, falling, and as strides have it, some of them gone and come back, make the same tree.
func TestInAnyOrder(t *testing.T) {
	for _, list := range keySets() {
		want := tree(list, coprime(len(list))[0])
		for _, stride := range coprime(len(list)) {
			for _, pause := range []int{1, 2, 5, 100} {
				x := treap.New()
				for i := range list {
					x, _ = treap.Put(x, list[(i*stride+3)%len(list)])
					if i%pause == 1 {
						gone := list[((i-1)*stride+3)%len(list)]
						x, _ = treap.Del(x, gone)
						x, _ = treap.Put(x, gone)
					}
				}
				checkTree(t, x, list)
				checkSame(t, want, x)
			}
		}
	}
}

// TestComeAndGo is of P8.2, P8.3 and P8.4: many keys are put and deleted; at each step the tree may be, has just those that it should, and each is as deep as it is to be.
func TestComeAndGo(t *testing.T) {
	for _, seed := range []int{1, 5, 12} {
		pool, x, has := spread(90, seed), treap.New(), []int{}
		for step := range 700 {
			key := pool[(step*step*7+step*seed)%90]
			at := slices.Index(has, key)
			got, e := treap.Put(x, key)
			switch {
			case at >= 0:
				if e != api.ErrTwice {
					t.Fatalf("Put(%v, %d) = %d", x, key, e)
				}
				got, e = treap.Del(x, key)
				has = slices.Delete(has, at, at+1)
			case len(has) == 64:
				if e != api.ErrFull {
					t.Fatalf("Put(%v, %d) = %d", x, key, e)
				}
				got, e = treap.Del(x, has[step%64])
				has = slices.Delete(has, step%64, step%64+1)
			default:
				has = append(has, key)
			}
			if e != api.OK {
				t.Fatalf("step %d: %d", step, e)
			}
			x = got
			checkTree(t, x, has)
		}
		for len(has) > 0 {
			x, _ = treap.Del(x, has[0])
			has = has[1:]
			checkTree(t, x, has)
		}
		if x.Root != -1 || len(x.Nodes) != 0 {
			t.Errorf("%v is left", x)
		}
	}
}

// TestShared is of rule R4: trees that are made of one don't get in each other's way.
func TestShared(t *testing.T) {
	from := roomy(tree([]int{1, 2, 3}, 1))
	a, _ := treap.Put(from, 7)
	b, _ := treap.Put(from, 8)
	c, _ := treap.Put(a, 9)
	d, _ := treap.Put(a, 10)
	e, _ := treap.Del(from, 1)
	f, _ := treap.Del(from, 3)
	checkTree(t, a, []int{1, 2, 3, 7})
	checkTree(t, b, []int{1, 2, 3, 8})
	checkTree(t, c, []int{1, 2, 3, 7, 9})
	checkTree(t, d, []int{1, 2, 3, 7, 10})
	checkTree(t, e, []int{2, 3})
	checkTree(t, f, []int{1, 2})
	checkKept(t, from, tree([]int{1, 2, 3}, 1))
}
