package plan

import (
	"math"
	"slices"
	"strings"
	"testing"
	"unsafe"

	"windlass/api"
	"windlass/plat"
	"windlass/xor"
)

// The limits that the document names.
const (
	longestRun = 4
	blockBytes = 16
)

// far are numbers that no block, column or count of a run is, and that no geometry has of anything.
var far = []int{
	-2, -3, -4, -6, -8, -40, -41, -256, math.MinInt8, math.MinInt16, math.MinInt32, math.MinInt32 - 1, math.MinInt + 3, math.MinInt + 1, math.MinInt,
	41, 48, 64, 127, 128, 255, 256, 257, 256 + 4, 65536, 65536 + 4, math.MaxInt32, math.MaxInt32 + 1, 1 << 32, 1<<32 + 1, 1<<32 + 3, 1<<32 + 4,
	1 << 53, 1<<53 + 1, 1 << 62, 1<<62 + 1, 1<<62 + 4, 3 << 61, math.MaxInt - 40, math.MaxInt - 4, math.MaxInt - 3, math.MaxInt - 2, math.MaxInt - 1, math.MaxInt,
}

// rights are all right geometries.
func rights() []api.Geometry {
	var l []api.Geometry
	for nodes := 3; nodes <= 6; nodes++ {
		for stripes := 1; stripes <= 8; stripes++ {
			l = append(l, api.Geometry{Nodes: nodes, Stripes: stripes})
		}
	}
	return l
}

// wrongs are geometries that are not right: of too few nodes or too many, of too few stripes or too many, of both.
func wrongs() []api.Geometry {
	l := []api.Geometry{{}, {Nodes: 1, Stripes: 1}, {Nodes: 8, Stripes: 6}, {Nodes: -4, Stripes: -3}}
	for _, nodes := range append([]int{-1, 0, 1, 2, 7, 8, 9}, far...) {
		l = append(l, api.Geometry{Nodes: nodes, Stripes: 1}, api.Geometry{Nodes: nodes, Stripes: 8}, api.Geometry{Nodes: nodes, Stripes: nodes})
	}
	for _, stripes := range append([]int{-1, 0, 9, 10}, far...) {
		l = append(l, api.Geometry{Nodes: 3, Stripes: stripes}, api.Geometry{Nodes: 4, Stripes: stripes}, api.Geometry{Nodes: 6, Stripes: stripes})
	}
	return l
}

// chance answers numbers from 0 on, below n, that look like chance, but are the same in each run.
func chance(state uint64) func(n int) int {
	return func(n int) int {
		state = state*6364136223846793005 + 1442695040888963407
		return int(state>>33) % n
	}
}

// some are n texts of size bytes that look like chance; other seeds give others.
func some(seed, n, size int) []string {
	next := chance(uint64(seed)*1009 + 7)
	l := make([]string, n)
	for i := range l {
		b := make([]byte, size)
		for j := range b {
			b[j] = byte(next(256))
		}
		l[i] = string(b)
	}
	return l
}

// summed is all texts put together bit by bit, told another way than by layer 1: a bit is set, if an odd number of texts has it.
func summed(l ...string) string {
	b := make([]byte, blockBytes)
	for i := range b {
		for bit := 0; bit < 8; bit++ {
			odd := 0
			for _, s := range l {
				odd += int(s[i]) >> bit % 2
			}
			if odd%2 == 1 {
				b[i] += 1 << bit
			}
		}
	}
	return string(b)
}

// cut is Split told another way: all blocks are gone through, stripe by stripe, and each that is of the run counts.
func cut(g api.Geometry, at, count int) []api.Piece {
	var l []api.Piece
	block := 0
	for stripe := range g.Stripes {
		p := api.Piece{Stripe: stripe}
		for column := range g.Nodes - 1 {
			if block == at || block > at && column == 0 && block < at+count {
				p.First = column
			}
			if block >= at && block < at+count {
				p.Count++
			}
			block++
		}
		if p.Count > 0 {
			l = append(l, p)
		}
	}
	return l
}

// fetched and updated are Fetch and Update told another way: column by column, whether it is in either list.
func fetched(nodes, column, out int) ([]int, []int) {
	var read, beside []int
	for c := range nodes {
		if (c == column) != (out == column) {
			read = append(read, c)
		}
		if out == -1 && c-1 == column {
			beside = append(beside, c)
		}
	}
	return read, beside
}

func updated(nodes, column, out int) ([]int, []int) {
	var read, write []int
	for c := range nodes {
		parity := c == nodes-1
		switch {
		case out == nodes-1:
			if c == column {
				write = append(write, c)
			}
		case out == column:
			if parity {
				write = append(write, c)
			} else if c != column {
				read = append(read, c)
			}
		case c == column || parity:
			read, write = append(read, c), append(write, c)
		}
	}
	return read, write
}

// cases does each column of each number of nodes with each column that is out, and with none.
func cases(each func(g api.Geometry, column, out int)) {
	for nodes := 3; nodes <= 6; nodes++ {
		g := api.Geometry{Nodes: nodes, Stripes: nodes - 2}
		for column := 0; column < nodes-1; column++ {
			for out := -1; out < nodes; out++ {
				each(g, column, out)
			}
		}
	}
}

// picked are the texts of those columns.
func picked(stripe []string, columns []int) []string {
	var l []string
	for _, c := range columns {
		l = append(l, stripe[c])
	}
	return l
}

// columns are the digits of s, one for each column.
func columns(s string) []int {
	var l []int
	for _, r := range s {
		l = append(l, int(r-'0'))
	}
	return l
}

func wantSplit(t *testing.T, g api.Geometry, at, count int, pieces []api.Piece) {
	t.Helper()
	if got, e := Split(g, at, count); !slices.Equal(got, pieces) || e != api.OK {
		t.Fatalf("Split(%+v, %d, %d): %+v %d, not %+v", g, at, count, got, e, pieces)
	}
}

func noSplit(t *testing.T, g api.Geometry, at, count int) {
	t.Helper()
	if got, e := Split(g, at, count); len(got) != 0 || e != api.ErrPlatRange {
		t.Fatalf("Split(%+v, %d, %d): %+v %d, not ErrPlatRange", g, at, count, got, e)
	}
}

func wantFetch(t *testing.T, g api.Geometry, column, out int, read, beside []int) {
	t.Helper()
	if a, b, e := Fetch(g, column, out); !slices.Equal(a, read) || !slices.Equal(b, beside) || e != api.OK {
		t.Fatalf("Fetch(%+v, %d, %d): %v %v %d, not %v %v", g, column, out, a, b, e, read, beside)
	}
}

func wantUpdate(t *testing.T, g api.Geometry, column, out int, read, write []int) {
	t.Helper()
	if a, b, e := Update(g, column, out); !slices.Equal(a, read) || !slices.Equal(b, write) || e != api.OK {
		t.Fatalf("Update(%+v, %d, %d): %v %v %d, not %v %v", g, column, out, a, b, e, read, write)
	}
}

func wantGot(t *testing.T, g api.Geometry, column, out int, read []string, block string) {
	t.Helper()
	if s, e := Got(g, column, out, read); s != block || e != api.OK {
		t.Fatalf("Got(%+v, %d, %d, %q): %q %d, not %q", g, column, out, read, s, e, block)
	}
}

func noGot(t *testing.T, g api.Geometry, column, out int, read []string, want api.Errno) {
	t.Helper()
	if s, e := Got(g, column, out, read); s != "" || e != want {
		t.Fatalf("Got(%+v, %d, %d, %q): %q %d, not the error %d", g, column, out, read, s, e, want)
	}
}

func wantMade(t *testing.T, g api.Geometry, column, out int, read []string, data string, blocks []string) {
	t.Helper()
	if l, e := Made(g, column, out, read, data); !slices.Equal(l, blocks) || e != api.OK {
		t.Fatalf("Made(%+v, %d, %d, %q, %q): %q %d, not %q", g, column, out, read, data, l, e, blocks)
	}
}

func noMade(t *testing.T, g api.Geometry, column, out int, read []string, data string, want api.Errno) {
	t.Helper()
	if l, e := Made(g, column, out, read, data); len(l) != 0 || e != want {
		t.Fatalf("Made(%+v, %d, %d, %q, %q): %q %d, not the error %d", g, column, out, read, data, l, e, want)
	}
}

// nothingOf wants that all four calls that are given columns refuse these two, whatever the texts are.
func nothingOf(t *testing.T, g api.Geometry, column, out int) {
	t.Helper()
	if a, b, e := Fetch(g, column, out); len(a)+len(b) != 0 || e != api.ErrPlatRange {
		t.Fatalf("Fetch(%+v, %d, %d): %v %v %d, not ErrPlatRange", g, column, out, a, b, e)
	}
	if a, b, e := Update(g, column, out); len(a)+len(b) != 0 || e != api.ErrPlatRange {
		t.Fatalf("Update(%+v, %d, %d): %v %v %d, not ErrPlatRange", g, column, out, a, b, e)
	}
	block := "0123456789abcdef"
	for n := 0; n <= 5; n++ {
		noGot(t, g, column, out, slices.Repeat([]string{block}, n), api.ErrPlatRange)
		noMade(t, g, column, out, slices.Repeat([]string{block}, n), block, api.ErrPlatRange)
	}
	noGot(t, g, column, out, []string{"short"}, api.ErrPlatRange)
	noMade(t, g, column, out, []string{"short"}, "short", api.ErrPlatRange)
}

// N1, N2: the chapter's examples.
func TestExamples(t *testing.T) {
	g := api.Geometry{Nodes: 4, Stripes: 3}
	wantSplit(t, g, 2, 3, []api.Piece{{Stripe: 0, First: 2, Count: 1}, {Stripe: 1, First: 0, Count: 2}})
	wantFetch(t, g, 1, -1, []int{1}, []int{2})
	wantUpdate(t, g, 1, 1, []int{0, 2}, []int{3})
	wantUpdate(t, g, 1, 3, nil, []int{1})
}

// N1: runs that are written out: within a stripe, up to its end, beyond it, over more than two.
func TestRunsWrittenOut(t *testing.T) {
	for _, c := range []struct {
		nodes, stripes, at, count int
		pieces                    []api.Piece
	}{
		{3, 1, 0, 1, []api.Piece{{Stripe: 0, First: 0, Count: 1}}},
		{3, 1, 1, 1, []api.Piece{{Stripe: 0, First: 1, Count: 1}}},
		{3, 1, 0, 2, []api.Piece{{Stripe: 0, First: 0, Count: 2}}},
		{3, 2, 0, 4, []api.Piece{{Stripe: 0, First: 0, Count: 2}, {Stripe: 1, First: 0, Count: 2}}},
		{3, 3, 1, 4, []api.Piece{{Stripe: 0, First: 1, Count: 1}, {Stripe: 1, First: 0, Count: 2}, {Stripe: 2, First: 0, Count: 1}}},
		{3, 8, 13, 3, []api.Piece{{Stripe: 6, First: 1, Count: 1}, {Stripe: 7, First: 0, Count: 2}}},
		{4, 2, 2, 4, []api.Piece{{Stripe: 0, First: 2, Count: 1}, {Stripe: 1, First: 0, Count: 3}}},
		{5, 4, 12, 4, []api.Piece{{Stripe: 3, First: 0, Count: 4}}},
		{5, 8, 30, 2, []api.Piece{{Stripe: 7, First: 2, Count: 2}}},
		{6, 8, 36, 4, []api.Piece{{Stripe: 7, First: 1, Count: 4}}},
		{6, 8, 34, 4, []api.Piece{{Stripe: 6, First: 4, Count: 1}, {Stripe: 7, First: 0, Count: 3}}},
		{6, 8, 39, 1, []api.Piece{{Stripe: 7, First: 4, Count: 1}}},
	} {
		wantSplit(t, api.Geometry{Nodes: c.nodes, Stripes: c.stripes}, c.at, c.count, c.pieces)
	}
}

// N1: each run of each right geometry, and each that begins or ends beyond its blocks, or is empty or too long.
func TestEachRun(t *testing.T) {
	for _, g := range rights() {
		blocks := g.Stripes * (g.Nodes - 1)
		for at := -6; at <= blocks+6; at++ {
			for count := -6; count <= 50; count++ {
				if count < 1 || count > longestRun || at < 0 || at+count > blocks {
					noSplit(t, g, at, count)
					continue
				}
				wantSplit(t, g, at, count, cut(g, at, count))
			}
		}
	}
}

// N1: the first block and the last one, alone and with one more; the one beyond.
func TestFirstAndLastBlock(t *testing.T) {
	for _, g := range rights() {
		last := g.Stripes*(g.Nodes-1) - 1
		wantSplit(t, g, 0, 1, []api.Piece{{Count: 1}})
		wantSplit(t, g, last, 1, []api.Piece{{Stripe: g.Stripes - 1, First: g.Nodes - 2, Count: 1}})
		noSplit(t, g, last, 2)
		noSplit(t, g, last+1, 1)
		noSplit(t, g, -1, 1)
		noSplit(t, g, -1, 2)
		noSplit(t, g, 0, 0)
		noSplit(t, g, 0, 5)
	}
}

// N1: numbers far off, also such that the last block's number would wrap round and be a right one.
func TestFarRuns(t *testing.T) {
	for _, g := range rights() {
		for _, a := range append([]int{-1}, far...) {
			for n := -1; n <= 6; n++ {
				noSplit(t, g, a, n)
				noSplit(t, g, n, a)
			}
			for _, b := range far {
				noSplit(t, g, a, b)
			}
		}
	}
}

func TestNoRunOfWrongGeometries(t *testing.T) {
	for _, g := range wrongs() {
		for at := -2; at <= 9; at++ {
			for count := -1; count <= 5; count++ {
				noSplit(t, g, at, count)
			}
		}
		noSplit(t, g, math.MaxInt, math.MaxInt)
		noSplit(t, g, math.MinInt, math.MinInt)
	}
}

// N1: the pieces of a run are its blocks, one behind the other.
func TestPiecesAreTheBlocks(t *testing.T) {
	for _, g := range rights() {
		for at := range plat.Blocks(g) {
			for count := 1; count <= longestRun && at+count <= plat.Blocks(g); count++ {
				l, _ := Split(g, at, count)
				block := at
				for _, p := range l {
					for column := p.First; column < p.First+p.Count; column++ {
						if n, ok := plat.Block(g, p.Stripe, column); !ok || n != block {
							t.Fatalf("Split(%+v, %d, %d): %+v: %d stands in place of %d", g, at, count, l, n, block)
						}
						block++
					}
				}
				if block != at+count {
					t.Fatalf("Split(%+v, %d, %d): %+v: it ends ahead of %d", g, at, count, l, block)
				}
			}
		}
	}
}

// N2: what is read and asked beside, and what is read and written, written out for the fewest nodes and for four, with each column that is out.
func TestPlansWrittenOut(t *testing.T) {
	for _, c := range []struct {
		nodes, column, out          int
		read, beside, before, write string
	}{
		{3, 0, -1, "0", "1", "02", "02"},
		{3, 0, 0, "12", "", "1", "2"},
		{3, 0, 1, "0", "", "02", "02"},
		{3, 0, 2, "0", "", "", "0"},
		{3, 1, -1, "1", "2", "12", "12"},
		{3, 1, 0, "1", "", "12", "12"},
		{3, 1, 1, "02", "", "0", "2"},
		{3, 1, 2, "1", "", "", "1"},
		{4, 0, -1, "0", "1", "03", "03"},
		{4, 0, 0, "123", "", "12", "3"},
		{4, 0, 1, "0", "", "03", "03"},
		{4, 0, 3, "0", "", "", "0"},
		{4, 1, 1, "023", "", "02", "3"},
		{4, 1, 3, "1", "", "", "1"},
		{4, 2, -1, "2", "3", "23", "23"},
		{4, 2, 0, "2", "", "23", "23"},
		{4, 2, 2, "013", "", "01", "3"},
		{4, 2, 3, "2", "", "", "2"},
		{6, 4, -1, "4", "5", "45", "45"},
		{6, 4, 4, "01235", "", "0123", "5"},
		{6, 0, 0, "12345", "", "1234", "5"},
		{6, 2, 2, "01345", "", "0134", "5"},
		{6, 2, 4, "2", "", "25", "25"},
		{6, 2, 5, "2", "", "", "2"},
	} {
		for _, stripes := range []int{1, 5, 8} {
			g := api.Geometry{Nodes: c.nodes, Stripes: stripes}
			wantFetch(t, g, c.column, c.out, columns(c.read), columns(c.beside))
			wantUpdate(t, g, c.column, c.out, columns(c.before), columns(c.write))
		}
	}
}

// N2: each column of each right geometry, with each one that is out, and all numbers about them.
func TestEachPlan(t *testing.T) {
	for _, g := range rights() {
		for column := -3; column <= 9; column++ {
			for out := -4; out <= 9; out++ {
				if column < 0 || column >= g.Nodes-1 || out < -1 || out >= g.Nodes {
					nothingOf(t, g, column, out)
					continue
				}
				read, beside := fetched(g.Nodes, column, out)
				wantFetch(t, g, column, out, read, beside)
				read, write := updated(g.Nodes, column, out)
				wantUpdate(t, g, column, out, read, write)
			}
		}
	}
}

// N2: the parity's column bears no block, so nothing is planned for it; but it may be the one that is out.
func TestParityColumn(t *testing.T) {
	for _, g := range rights() {
		parity := g.Nodes - 1
		for out := -1; out <= parity; out++ {
			nothingOf(t, g, parity, out)
		}
		wantFetch(t, g, 0, parity, []int{0}, nil)
		wantUpdate(t, g, 0, parity, nil, []int{0})
		nothingOf(t, g, 0, parity+1)
	}
}

// N2, N3: columns as far off as an int goes.
func TestFarColumns(t *testing.T) {
	for _, g := range rights() {
		for _, a := range append([]int{-1}, far...) {
			nothingOf(t, g, a, -1)
			nothingOf(t, g, a, 0)
			nothingOf(t, g, a, g.Nodes-1)
			nothingOf(t, g, a, a)
		}
		for _, a := range far {
			nothingOf(t, g, 0, a)
			nothingOf(t, g, g.Nodes-2, a)
		}
	}
}

func TestNoPlanOfWrongGeometries(t *testing.T) {
	for _, g := range wrongs() {
		for column := -2; column <= 6; column++ {
			for _, out := range []int{-2, -1, 0, 1, 2, 5, column, g.Nodes, g.Nodes - 1} {
				nothingOf(t, g, column, out)
			}
		}
		nothingOf(t, g, g.Nodes-2, -1)
		nothingOf(t, g, g.Nodes-1, g.Nodes-1)
	}
}

// N3: blocks that are written out: one that was read itself, one that the others tell, new ones.
func TestBlocksWrittenOut(t *testing.T) {
	g := api.Geometry{Nodes: 4, Stripes: 2}
	a, b, p := "aaaaaaaaaaaaaaaa", "bbbbbbbbbbbbbbbb", "````````````````"
	c := "cccccccccccccccc"
	noughts := strings.Repeat("\x00", blockBytes)
	wantGot(t, g, 1, -1, []string{b}, b)
	wantGot(t, g, 1, 0, []string{b}, b)
	wantGot(t, g, 1, 3, []string{b}, b)
	wantGot(t, g, 1, 1, []string{a, c, p}, b)
	wantGot(t, g, 2, 2, []string{a, b, p}, c)
	wantGot(t, g, 0, 0, []string{b, c, p}, a)
	wantMade(t, g, 1, -1, []string{b, p}, b, []string{b, p})
	wantMade(t, g, 1, -1, []string{b, p}, a, []string{a, c})
	wantMade(t, g, 1, 0, []string{b, p}, c, []string{c, a})
	wantMade(t, g, 1, 2, []string{b, noughts}, c, []string{c, "\x01\x01\x01\x01\x01\x01\x01\x01\x01\x01\x01\x01\x01\x01\x01\x01"})
	wantMade(t, g, 1, 1, []string{a, c}, b, []string{p})
	wantMade(t, g, 1, 3, nil, c, []string{c})
	wantMade(t, g, 1, 3, []string{}, c, []string{c})
}

// N3: of all columns, what is got and made of texts that look like chance, told another way.
func TestBlocksOfChance(t *testing.T) {
	cases(func(g api.Geometry, column, out int) {
		for seed := range 20 {
			n, _ := fetched(g.Nodes, column, out)
			read := some(seed, len(n), blockBytes)
			wantGot(t, g, column, out, read, summed(read...))
			n, _ = updated(g.Nodes, column, out)
			read = some(seed+100, len(n), blockBytes)
			data := some(seed+200, 1, blockBytes)[0]
			blocks := []string{data, summed(append([]string{data}, read...)...)}
			switch out {
			case g.Nodes - 1:
				blocks = blocks[:1]
			case column:
				blocks = blocks[1:]
			}
			wantMade(t, g, column, out, read, data, blocks)
		}
	})
}

// N3: as many texts as there are columns to be read: one too few, one too many and any other number are refused.
func TestHowManyTexts(t *testing.T) {
	data := some(1, 1, blockBytes)[0]
	cases(func(g api.Geometry, column, out int) {
		fetch, _ := fetched(g.Nodes, column, out)
		update, _ := updated(g.Nodes, column, out)
		for n := 0; n <= 9; n++ {
			read := some(n, n, blockBytes)
			if n != len(fetch) {
				noGot(t, g, column, out, read, api.ErrXorLong)
			}
			if n != len(update) {
				noMade(t, g, column, out, read, data, api.ErrXorLong)
			}
		}
		noGot(t, g, column, out, nil, api.ErrXorLong)
	})
}

// N3: each text has 16 bytes: that each of them has one less or one more does not do, be it one alone or all of them.
func TestHowLongTexts(t *testing.T) {
	cases(func(g api.Geometry, column, out int) {
		fetch, _ := fetched(g.Nodes, column, out)
		update, _ := updated(g.Nodes, column, out)
		data := some(1, 1, blockBytes)[0]
		for _, size := range []int{0, 1, 8, 15, 17, 32, 256 + 16, 65536 + 16} {
			bad := some(2, 1, size)[0]
			for i := range fetch {
				read := some(3, len(fetch), blockBytes)
				read[i] = bad
				noGot(t, g, column, out, read, api.ErrXorLong)
			}
			for i := range update {
				read := some(4, len(update), blockBytes)
				read[i] = bad
				noMade(t, g, column, out, read, data, api.ErrXorLong)
			}
			noGot(t, g, column, out, some(5, len(fetch), size), api.ErrXorLong)
			noMade(t, g, column, out, some(6, len(update), blockBytes), bad, api.ErrXorLong)
			noMade(t, g, column, out, some(7, len(update), size), bad, api.ErrXorLong)
		}
	})
}

// N4: of a stripe that is nought, put together, whichever column is out, what is got is the block.
func TestAnyColumnMayBeOut(t *testing.T) {
	cases(func(g api.Geometry, column, out int) {
		for seed := range 10 {
			stripe := some(seed, g.Nodes-1, blockBytes)
			stripe = append(stripe, summed(stripe...))
			block := stripe[column]
			if out >= 0 {
				stripe[out] = "nobody may ask!!"
			}
			read, _, _ := Fetch(g, column, out)
			wantGot(t, g, column, out, picked(stripe, read), block)
		}
	})
}

// N4: behind what is made is written, the stripe is nought again, the data are in the column, and no other block is another one.
func TestStripeStaysNought(t *testing.T) {
	noughts := strings.Repeat("\x00", blockBytes)
	cases(func(g api.Geometry, column, out int) {
		stripe := some(g.Nodes, g.Nodes-1, blockBytes)
		stripe = append(stripe, summed(stripe...))
		for seed := range 10 {
			data := some(seed+50, 1, blockBytes)[0]
			was := slices.Clone(stripe)
			read, write, _ := Update(g, column, out)
			blocks, e := Made(g, column, out, picked(stripe, read), data)
			if e != api.OK || len(blocks) != len(write) {
				t.Fatalf("Made(%+v, %d, %d): %d blocks for %v, %d", g, column, out, len(blocks), write, e)
			}
			for i, c := range write {
				if c == out {
					t.Fatalf("Update(%+v, %d, %d): %v", g, column, out, write)
				}
				stripe[c] = blocks[i]
			}
			if out >= 0 {
				stripe[out] = summed(slices.Delete(slices.Clone(stripe), out, out+1)...)
			}
			if sum, _ := xor.All(stripe); sum != noughts || stripe[column] != data {
				t.Fatalf("%+v, column %d, out %d: %q, which is not nought, or has not %q", g, column, out, stripe, data)
			}
			for c := range g.Nodes - 1 {
				if c != column && stripe[c] != was[c] {
					t.Fatalf("%+v, column %d, out %d: the column %d is another one", g, column, out, c)
				}
			}
			read, _, _ = Fetch(g, column, out)
			wantGot(t, g, column, out, picked(stripe, read), data)
		}
	})
}

// N2: what is out is neither read, nor asked, nor written; nothing is named twice.
func TestWhatIsOutIsLeftAlone(t *testing.T) {
	cases(func(g api.Geometry, column, out int) {
		read, beside, _ := Fetch(g, column, out)
		before, write, _ := Update(g, column, out)
		for _, l := range [][]int{slices.Concat(read, beside), before, write} {
			seen := slices.Sorted(slices.Values(l))
			if slices.Contains(l, out) || len(slices.Compact(seen)) != len(l) {
				t.Fatalf("%+v, column %d, out %d: %v", g, column, out, l)
			}
		}
	})
}

// R3: what is handed in stays as it was, what stands behind its length too.
func TestTextsStayAsTheyWere(t *testing.T) {
	cases(func(g api.Geometry, column, out int) {
		data := some(1, 1, blockBytes)[0]
		for n := 0; n <= 6; n++ {
			room := some(n, 10, blockBytes)
			was := slices.Clone(room)
			Got(g, column, out, room[:n])
			Made(g, column, out, room[:n], data)
			if !slices.Equal(room, was) {
				t.Fatalf("%+v, column %d, out %d, %d texts: %q, not %q", g, column, out, n, room, was)
			}
		}
	})
}

// spoil writes over all numbers of a list, and over its spare room.
func spoil(l []int) {
	l = l[:cap(l)]
	for i := range l {
		l[i] = -77
	}
}

// R3: of lists that are answered none shares memory with another one.
func TestListsAreNew(t *testing.T) {
	cases(func(g api.Geometry, column, out int) {
		for _, call := range []func(api.Geometry, int, int) ([]int, []int, api.Errno){Fetch, Update} {
			a, b, _ := call(g, column, out)
			c, d, _ := call(g, column, out)
			for _, l := range [][]int{a, b, c, d} {
				spoil(l)
				read, beside := fetched(g.Nodes, column, out)
				wantFetch(t, g, column, out, read, beside)
				read, write := updated(g.Nodes, column, out)
				wantUpdate(t, g, column, out, read, write)
			}
			a, b, _ = call(g, column, out)
			c, d, _ = call(g, column, out)
			was := slices.Clone(b)
			spoil(a)
			if !slices.Equal(b, was) || slices.Contains(c, -77) || slices.Contains(d, -77) {
				t.Fatalf("%+v, column %d, out %d: two lists share memory", g, column, out)
			}
		}
	})
	g := api.Geometry{Nodes: 3, Stripes: 3}
	l, _ := Split(g, 1, 4)
	other, _ := Split(g, 1, 4)
	l = l[:cap(l)]
	for i := range l {
		l[i] = api.Piece{Stripe: -7, First: -7, Count: -7}
	}
	if !slices.Equal(other, cut(g, 1, 4)) {
		t.Fatalf("two lists of pieces share memory: %+v", other)
	}
	wantSplit(t, g, 1, 4, cut(g, 1, 4))
}

// R3: a text that is answered is no piece of one that was handed in.
func TestTextsAreNew(t *testing.T) {
	cases(func(g api.Geometry, column, out int) {
		data := some(1, 1, blockBytes)[0]
		n, _ := fetched(g.Nodes, column, out)
		read := some(2, len(n), blockBytes)
		s, _ := Got(g, column, out, read)
		n, _ = updated(g.Nodes, column, out)
		before := some(3, len(n), blockBytes)
		l, _ := Made(g, column, out, before, data)
		for _, answer := range append(l, s) {
			for _, given := range append(slices.Concat(read, before), data) {
				if unsafe.StringData(answer) == unsafe.StringData(given) {
					t.Fatalf("%+v, column %d, out %d: a text that was handed in comes out", g, column, out)
				}
			}
		}
	})
}

// R4: what was asked ahead of it changes no answer.
func TestNothingIsKept(t *testing.T) {
	g := api.Geometry{Nodes: 4, Stripes: 3}
	a, b, p := "aaaaaaaaaaaaaaaa", "bbbbbbbbbbbbbbbb", "\x03\x03\x03\x03\x03\x03\x03\x03\x03\x03\x03\x03\x03\x03\x03\x03"
	for _, other := range append(rights(), wrongs()...) {
		Split(other, 1, 3)
		Fetch(other, 1, 1)
		Update(other, 1, -1)
		Got(other, 0, 0, []string{a, a})
		Made(other, 0, -1, []string{a, a}, b)
		wantSplit(t, g, 7, 2, []api.Piece{{Stripe: 2, First: 1, Count: 2}})
		wantFetch(t, g, 2, -1, []int{2}, []int{3})
		wantUpdate(t, g, 2, 2, []int{0, 1}, []int{3})
		wantGot(t, g, 1, 0, []string{b}, b)
		wantMade(t, g, 1, -1, []string{a, b}, b, []string{b, summed(p, b)})
	}
}
