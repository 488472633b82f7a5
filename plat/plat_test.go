package plat

import (
	"math"
	"testing"

	"windlass/api"
)

// The limits that the document names.
const (
	fewestNodes = 3
	mostNodes   = 6
	mostStripes = 8
)

// far are numbers that no stripe, column, node or block has, and that no geometry has of anything.
var far = []int{
	-1, -2, -3, -4, -6, -8, -40, -41, -256, math.MinInt8, math.MinInt16, math.MinInt32, math.MinInt32 - 1, math.MinInt + 1, math.MinInt,
	41, 48, 64, 127, 128, 255, 256, 257, 256 + 4, 65536, 65536 + 4, math.MaxInt32, math.MaxInt32 + 1, 1 << 32, 1<<32 + 1, 1<<32 + 3, 1<<32 + 4,
	1 << 62, 1<<62 + 1, 1<<62 + 4, 3 << 61, math.MaxInt - 40, math.MaxInt - 7, math.MaxInt - 3, math.MaxInt - 2, math.MaxInt - 1, math.MaxInt,
}

// rights are all right geometries.
func rights() []api.Geometry {
	var l []api.Geometry
	for _, nodes := range []int{3, 4, 5, 6} {
		for _, stripes := range []int{1, 2, 3, 4, 5, 6, 7, 8} {
			l = append(l, api.Geometry{Nodes: nodes, Stripes: stripes})
		}
	}
	return l
}

// wrongs are geometries that are not right: of too few nodes or too many, of too few stripes or too many, of both.
func wrongs() []api.Geometry {
	badNodes := append([]int{0, 1, 2, 7, 8, 9, 30}, far...)
	badStripes := append([]int{0, 9, 10, 11, 30}, far...)
	var l []api.Geometry
	for _, nodes := range badNodes {
		for _, stripes := range []int{1, 2, 3, 4, 5, 6, 7, 8} {
			l = append(l, api.Geometry{Nodes: nodes, Stripes: stripes})
		}
		for _, stripes := range badStripes {
			l = append(l, api.Geometry{Nodes: nodes, Stripes: stripes})
		}
	}
	for _, stripes := range badStripes {
		for _, nodes := range []int{3, 4, 5, 6} {
			l = append(l, api.Geometry{Nodes: nodes, Stripes: stripes})
		}
	}
	return l
}

// layout is of each stripe the nodes of its columns, told another way than by remainders: from stripe to stripe the first node goes behind the last one.
func layout(g api.Geometry) [][]int {
	var row []int
	for node := range g.Nodes {
		row = append(row, node)
	}
	var l [][]int
	for range g.Stripes {
		l = append(l, row)
		row = append(append([]int{}, row[1:]...), row[0])
	}
	return l
}

// places are the blocks' places, one behind the other.
func places(g api.Geometry) []api.Place {
	var l []api.Place
	for stripe, row := range layout(g) {
		for column, node := range row[:len(row)-1] {
			l = append(l, api.Place{Stripe: stripe, Column: column, Node: node})
		}
	}
	return l
}

func wantRight(t *testing.T, g api.Geometry, right bool) {
	t.Helper()
	if got := Right(g); got != right {
		t.Fatalf("Right(%+v): %v", g, got)
	}
}

func wantBlocks(t *testing.T, g api.Geometry, n int) {
	t.Helper()
	if got := Blocks(g); got != n {
		t.Fatalf("Blocks(%+v): %d, not %d", g, got, n)
	}
}

func wantParity(t *testing.T, g api.Geometry, column int) {
	t.Helper()
	if got := Parity(g); got != column {
		t.Fatalf("Parity(%+v): %d, not %d", g, got, column)
	}
}

func wantOf(t *testing.T, g api.Geometry, block int, p api.Place, e api.Errno) {
	t.Helper()
	if got, gotE := Of(g, block); got != p || gotE != e {
		t.Fatalf("Of(%+v, %d): %+v %d, not %+v %d", g, block, got, gotE, p, e)
	}
}

func noBlock(t *testing.T, g api.Geometry, block int) {
	t.Helper()
	wantOf(t, g, block, api.Place{}, api.ErrPlatRange)
}

func wantBlock(t *testing.T, g api.Geometry, stripe, column, block int, ok bool) {
	t.Helper()
	if got, gotOK := Block(g, stripe, column); got != block || gotOK != ok {
		t.Fatalf("Block(%+v, %d, %d): %d %v, not %d %v", g, stripe, column, got, gotOK, block, ok)
	}
}

func wantNode(t *testing.T, g api.Geometry, stripe, column, node int) {
	t.Helper()
	if got := NodeOf(g, stripe, column); got != node {
		t.Fatalf("NodeOf(%+v, %d, %d): %d, not %d", g, stripe, column, got, node)
	}
}

func wantColumn(t *testing.T, g api.Geometry, stripe, node, column int) {
	t.Helper()
	if got := ColumnOf(g, stripe, node); got != column {
		t.Fatalf("ColumnOf(%+v, %d, %d): %d, not %d", g, stripe, node, got, column)
	}
}

// nothingAt wants that nothing is in that stripe at that number, be it a column or a node.
func nothingAt(t *testing.T, g api.Geometry, stripe, n int) {
	t.Helper()
	wantBlock(t, g, stripe, n, 0, false)
	wantNode(t, g, stripe, n, -1)
	wantColumn(t, g, stripe, n, -1)
}

// P1, P2: the chapter's example.
func TestExample(t *testing.T) {
	g := api.Geometry{Nodes: 4, Stripes: 3}
	wantRight(t, g, true)
	wantBlocks(t, g, 9)
	wantParity(t, g, 3)
	wantOf(t, g, 5, api.Place{Stripe: 1, Column: 2, Node: 3}, api.OK)
	wantBlock(t, g, 1, 2, 5, true)
	wantNode(t, g, 1, 3, 0)
	wantColumn(t, g, 1, 0, 3)
}

// P1: all right geometries, with what they have; the numbers are written out.
func TestRightOnes(t *testing.T) {
	blocks := map[int][]int{
		3: {2, 4, 6, 8, 10, 12, 14, 16},
		4: {3, 6, 9, 12, 15, 18, 21, 24},
		5: {4, 8, 12, 16, 20, 24, 28, 32},
		6: {5, 10, 15, 20, 25, 30, 35, 40},
	}
	parity := map[int]int{3: 2, 4: 3, 5: 4, 6: 5}
	for _, g := range rights() {
		wantRight(t, g, true)
		wantBlocks(t, g, blocks[g.Nodes][g.Stripes-1])
		wantParity(t, g, parity[g.Nodes])
	}
}

// P1: each pair of small numbers, those one less and one more than the limits among them.
func TestSmallGeometries(t *testing.T) {
	right := 0
	for nodes := -20; nodes <= 40; nodes++ {
		for stripes := -20; stripes <= 40; stripes++ {
			g := api.Geometry{Nodes: nodes, Stripes: stripes}
			if fewestNodes <= nodes && nodes <= mostNodes && 1 <= stripes && stripes <= mostStripes {
				right++
				wantRight(t, g, true)
				wantBlocks(t, g, len(places(g)))
				wantParity(t, g, nodes-1)
				continue
			}
			wantRight(t, g, false)
			wantBlocks(t, g, 0)
			wantParity(t, g, -1)
		}
	}
	if right != len(rights()) {
		t.Fatalf("%d right geometries, not %d", right, len(rights()))
	}
}

func TestWrongGeometries(t *testing.T) {
	for _, g := range append(wrongs(), api.Geometry{}) {
		wantRight(t, g, false)
		wantBlocks(t, g, 0)
		wantParity(t, g, -1)
	}
}

// P1: nodes and stripes are not taken for one another.
func TestTurnedRound(t *testing.T) {
	wantRight(t, api.Geometry{Nodes: 3, Stripes: 8}, true)
	wantRight(t, api.Geometry{Nodes: 8, Stripes: 3}, false)
	wantRight(t, api.Geometry{Nodes: 6, Stripes: 1}, true)
	wantRight(t, api.Geometry{Nodes: 1, Stripes: 6}, false)
	wantBlocks(t, api.Geometry{Nodes: 4, Stripes: 5}, 15)
	wantBlocks(t, api.Geometry{Nodes: 5, Stripes: 4}, 16)
}

// P2: nodes of columns, written out: 3 nodes are gone round more than twice, 6 are not gone round twice.
func TestNodesWrittenOut(t *testing.T) {
	rows := map[int][]string{
		3: {"012", "120", "201", "012", "120", "201", "012", "120"},
		4: {"0123", "1230", "2301", "3012", "0123", "1230", "2301", "3012"},
		5: {"01234", "12340", "23401", "34012", "40123", "01234", "12340", "23401"},
		6: {"012345", "123450", "234501", "345012", "450123", "501234", "012345", "123450"},
	}
	for _, g := range rights() {
		for stripe := range g.Stripes {
			for column, node := range rows[g.Nodes][stripe] {
				wantNode(t, g, stripe, column, int(node-'0'))
				wantColumn(t, g, stripe, int(node-'0'), column)
			}
		}
	}
}

// P2: the blocks of two geometries, written out: of each its stripe, its column, its node.
func TestBlocksWrittenOut(t *testing.T) {
	lists := map[api.Geometry][][3]int{
		{Nodes: 3, Stripes: 4}: {{0, 0, 0}, {0, 1, 1}, {1, 0, 1}, {1, 1, 2}, {2, 0, 2}, {2, 1, 0}, {3, 0, 0}, {3, 1, 1}},
		{Nodes: 6, Stripes: 2}: {{0, 0, 0}, {0, 1, 1}, {0, 2, 2}, {0, 3, 3}, {0, 4, 4}, {1, 0, 1}, {1, 1, 2}, {1, 2, 3}, {1, 3, 4}, {1, 4, 5}},
	}
	for g, l := range lists {
		for block, n := range l {
			wantOf(t, g, block, api.Place{Stripe: n[0], Column: n[1], Node: n[2]}, api.OK)
			wantBlock(t, g, n[0], n[1], block, true)
		}
	}
}

// P2: each block of each right geometry stands where the layout has it, and there nothing else.
func TestEachBlock(t *testing.T) {
	for _, g := range rights() {
		for block, p := range places(g) {
			wantOf(t, g, block, p, api.OK)
			wantBlock(t, g, p.Stripe, p.Column, block, true)
		}
	}
}

// P2: the first and the last block, and those beyond.
func TestBlocksBeyond(t *testing.T) {
	for _, g := range rights() {
		last := len(places(g)) - 1
		wantOf(t, g, 0, api.Place{}, api.OK)
		wantOf(t, g, last, api.Place{Stripe: g.Stripes - 1, Column: g.Nodes - 2, Node: layout(g)[g.Stripes-1][g.Nodes-2]}, api.OK)
		for _, block := range append([]int{-1, last + 1, last + 2, last + g.Nodes, last + g.Stripes, 2*last + 2, g.Nodes * g.Stripes, last - g.Nodes*g.Stripes}, far...) {
			noBlock(t, g, block)
		}
	}
}

// P2: each column and node of each right geometry, and what is one beyond, or as far off as an int goes.
func TestEachColumn(t *testing.T) {
	for _, g := range rights() {
		l := layout(g)
		for stripe := -10; stripe <= 20; stripe++ {
			for n := -10; n <= 20; n++ {
				if stripe < 0 || stripe >= len(l) || n < 0 || n >= len(l[stripe]) {
					nothingAt(t, g, stripe, n)
					continue
				}
				wantNode(t, g, stripe, n, l[stripe][n])
				wantColumn(t, g, stripe, l[stripe][n], n)
			}
		}
	}
}

func TestFarColumns(t *testing.T) {
	for _, g := range rights() {
		for _, a := range far {
			for n := -1; n <= 9; n++ {
				nothingAt(t, g, a, n)
				nothingAt(t, g, n, a)
			}
			for _, b := range far {
				nothingAt(t, g, a, b)
			}
		}
	}
}

// P2: at the parity's column stands no block, though there are a column and a node.
func TestParityBearsNoBlock(t *testing.T) {
	for _, g := range rights() {
		for stripe, row := range layout(g) {
			wantBlock(t, g, stripe, g.Nodes-1, 0, false)
			wantNode(t, g, stripe, g.Nodes-1, row[len(row)-1])
			wantColumn(t, g, stripe, row[len(row)-1], g.Nodes-1)
		}
	}
}

// P2: of a geometry that is not right nothing is told.
func TestNothingOfWrongOnes(t *testing.T) {
	small := []int{0, 1, 2, 3, 5, 6, 7, 8, 9, 40}
	for _, g := range append(wrongs(), api.Geometry{}) {
		for _, a := range append([]int{-1, math.MinInt, math.MaxInt, 1 << 62, g.Nodes - 1, g.Stripes - 1, -g.Stripes}, small...) {
			noBlock(t, g, a)
			for _, b := range small {
				nothingAt(t, g, a, b)
				nothingAt(t, g, b, a)
			}
			nothingAt(t, g, a, a)
		}
	}
}

// P3: no two blocks stand in one place, and Block undoes Of.
func TestNoTwoInOnePlace(t *testing.T) {
	for _, g := range rights() {
		columns, nodes := map[[2]int]int{}, map[[2]int]int{}
		for block := range Blocks(g) {
			p, e := Of(g, block)
			if e != api.OK {
				t.Fatalf("%+v: no block %d", g, block)
			}
			columns[[2]int{p.Stripe, p.Column}]++
			nodes[[2]int{p.Stripe, p.Node}]++
			if p.Node != NodeOf(g, p.Stripe, p.Column) || p.Column != ColumnOf(g, p.Stripe, p.Node) {
				t.Fatalf("%+v: block %d stands on %+v", g, block, p)
			}
			wantBlock(t, g, p.Stripe, p.Column, block, true)
		}
		if len(columns) != g.Stripes*(g.Nodes-1) || len(nodes) != len(columns) {
			t.Fatalf("%+v: %d columns and %d nodes bear blocks", g, len(columns), len(nodes))
		}
	}
}

// P3: a stripe's columns stand on unlike nodes, all of them, and ColumnOf undoes NodeOf.
func TestUnlikeNodes(t *testing.T) {
	for _, g := range rights() {
		for stripe := range g.Stripes {
			seen := map[int]bool{}
			for column := range g.Nodes {
				node := NodeOf(g, stripe, column)
				if node < 0 || node >= g.Nodes || seen[node] {
					t.Fatalf("%+v: stripe %d, column %d: node %d, which is none or taken", g, stripe, column, node)
				}
				seen[node] = true
				wantColumn(t, g, stripe, node, column)
				wantNode(t, g, stripe, ColumnOf(g, stripe, column), column)
			}
		}
	}
}

// P3: over as many stripes as there are nodes, wherever they begin, each node has the parity once.
func TestParityGoesRound(t *testing.T) {
	for _, g := range rights() {
		for first := 0; first+g.Nodes <= g.Stripes; first++ {
			seen := map[int]int{}
			for stripe := first; stripe < first+g.Nodes; stripe++ {
				seen[NodeOf(g, stripe, Parity(g))]++
			}
			for node := range g.Nodes {
				if seen[node] != 1 {
					t.Fatalf("%+v, from stripe %d on: node %d has the parity %d times", g, first, node, seen[node])
				}
			}
		}
	}
}

// P2: where a column stands hangs on the nodes alone, not on how many stripes there are.
func TestMoreStripesMoveNothing(t *testing.T) {
	for _, g := range rights() {
		most := api.Geometry{Nodes: g.Nodes, Stripes: mostStripes}
		for block := range Blocks(g) {
			p, _ := Of(most, block)
			wantOf(t, g, block, p, api.OK)
		}
	}
}

// R4: what was asked ahead of it changes no answer.
func TestNothingIsKept(t *testing.T) {
	g := api.Geometry{Nodes: 4, Stripes: 3}
	for _, other := range append(rights(), wrongs()...) {
		Right(other)
		Of(other, Blocks(other)-1)
		Block(other, other.Stripes-1, 0)
		NodeOf(other, other.Stripes-1, Parity(other))
		ColumnOf(other, other.Stripes, 1)
		wantRight(t, g, true)
		wantBlocks(t, g, 9)
		wantOf(t, g, 5, api.Place{Stripe: 1, Column: 2, Node: 3}, api.OK)
		noBlock(t, g, 9)
		wantBlock(t, g, 2, 1, 7, true)
		wantNode(t, g, 2, 3, 1)
		wantColumn(t, g, 2, 1, 3)
	}
}
