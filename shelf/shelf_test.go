package shelf

import (
	"fmt"
	"math"
	"slices"
	"strings"
	"testing"
	"unsafe"

	"windlass/api"
	"windlass/crc"
	"windlass/platter"
)

// The limits that the document names.
const (
	size        = 64
	blockSize   = 16
	mostStripes = 8
	greatest    = 1<<24 - 1
	mostMask    = 63
)

// The errors, in short.
const (
	ok    = api.OK
	bad   = api.ErrArg
	gone  = api.ErrPlatterGone
	wrong = api.ErrShelfForm
)

// far are numbers that are no stripe, no number of stripes and no number of a record.
var far = []int{
	-1, -2, -3, -7, -8, -64, -128, -256, -65536, -1 << 24, -1<<24 + 1, math.MinInt8, math.MinInt16, math.MinInt32, math.MinInt32 - 1, -1 << 40, math.MinInt + 1, math.MinInt,
	1 << 24, 1<<24 + 1, 1 << 25, 1<<25 + 1, math.MaxInt32, 1 << 31, math.MaxUint32, 1 << 32, 1<<32 + 1, 1<<32 + 5, 1 << 40, 1<<40 + 1, 1 << 56, 1 << 62, 1<<62 + 1, math.MaxInt - 1, math.MaxInt,
}

// small are such numbers of stripes, too, that a record's number may well be.
var small = []int{9, 10, 15, 16, 17, 63, 64, 65, 255, 256, 257, 256 + 3, 65535, 65536, 65536 + 2, greatest}

// chance answers numbers from 0 on, below n, that look like chance, but are the same in each run.
func chance(state uint64) func(n int) int {
	return func(n int) int {
		state = state*6364136223846793005 + 1442695040888963407
		return int(state>>33) % n
	}
}

// some is a text of so many bytes that look like chance.
func some(seed, length int) string {
	next := chance(uint64(seed))
	b := make([]byte, length)
	for i := range b {
		b[i] = byte(next(256))
	}
	return string(b)
}

func noughts(n int) string { return strings.Repeat("\x00", n) }

// someNumber is one that may be: most often one at an edge, or one whose bytes are all unlike.
func someNumber(next func(int) int) int {
	edges := []int{0, 0, 1, 2, 255, 256, 257, 65535, 65536, 1 << 23, greatest - 1, greatest, 0x010203, 0x563412}
	if next(3) > 0 {
		return edges[next(len(edges))]
	}
	return next(1 << 24)
}

func someTag(next func(int) int) api.Tag {
	return api.Tag{Epoch: someNumber(next), Seq: someNumber(next)}
}

// someRecord is a right one: one of three has nothing, one has a block, one has something open, too.
func someRecord(next func(int) int) api.Record {
	r := api.Record{Fence: someNumber(next)}
	kind := next(3)
	if kind > 0 {
		r.Used, r.Done, r.Block = true, someTag(next), some(next(1000), blockSize)
	}
	if kind > 1 {
		r.Open, r.Intent, r.Mask, r.Staged = true, someTag(next), next(mostMask+1), some(next(1000), blockSize)
	}
	return r
}

// may is Right told another way: what a record of each of its kinds may have is all that it has.
func may(r api.Record) bool {
	blocks, staged := 0, 0
	switch {
	case r.Used && r.Open:
		blocks, staged = blockSize, blockSize
	case r.Used:
		blocks = blockSize
		if r != (api.Record{Used: true, Fence: r.Fence, Done: r.Done, Block: r.Block, Staged: r.Staged}) {
			return false
		}
	case r.Open:
		return false
	case r != api.Record{Fence: r.Fence, Block: r.Block, Staged: r.Staged}:
		return false
	}
	for _, n := range []int{r.Fence, r.Done.Epoch, r.Done.Seq, r.Intent.Epoch, r.Intent.Seq} {
		if n>>24 != 0 {
			return false
		}
	}
	return r.Mask>>6 == 0 && len(r.Block) == blocks && len(r.Staged) == staged
}

// three is a number by three bytes, the lower ones first.
func three(n int) string {
	return string([]byte{byte(n % 256), byte(n / 256 % 256), byte(n / 65536)})
}

// sealed is a text of 61 bytes with its sum behind it.
func sealed(s string) string {
	sum := three(crc.Sum(s))
	return s + sum[2:] + sum[1:2] + sum[:1]
}

// laid is Pack of a right record, told another way: its parts as texts, one behind the other.
func laid(stripe int, r api.Record) string {
	flags := 0
	switch {
	case r.Open:
		flags = 3
	case r.Used:
		flags = 1
	}
	s := string([]byte{'S', byte(stripe), byte(flags)}) + three(r.Fence) + three(r.Done.Epoch) + three(r.Done.Seq) + three(r.Intent.Epoch) + three(r.Intent.Seq)
	s += string([]byte{byte(r.Mask)}) + (r.Block + noughts(blockSize))[:blockSize] + (r.Staged + noughts(blockSize))[:blockSize]
	return sealed(s + noughts(61-len(s)))
}

// lifted is Unpack told another way: what each byte may be is asked one by one, and the sum by that the whole text has the sum 0.
func lifted(stripe int, s string) (api.Record, api.Errno) {
	if stripe < 0 || stripe > 7 || len(s) != size {
		return api.Record{}, wrong
	}
	if s == noughts(size) {
		return api.Record{}, ok
	}
	if crc.Sum(s) != 0 || s[0] != 83 || int(s[1]) != stripe || s[51:61] != noughts(10) || s[18] > mostMask {
		return api.Record{}, wrong
	}
	var n [5]int
	for i := range n {
		at := 3 + 3*i
		n[i] = int(s[at]) + 256*int(s[at+1]) + 65536*int(s[at+2])
	}
	r := api.Record{Fence: n[0], Done: api.Tag{Epoch: n[1], Seq: n[2]}}
	switch s[2] {
	case 0:
		if s[6:51] != noughts(45) {
			return api.Record{}, wrong
		}
	case 1:
		if s[12:19] != noughts(7) || s[35:51] != noughts(16) {
			return api.Record{}, wrong
		}
		r.Used, r.Block = true, s[19:35]
	case 3:
		r.Used, r.Block = true, s[19:35]
		r.Open, r.Intent, r.Mask, r.Staged = true, api.Tag{Epoch: n[3], Seq: n[4]}, int(s[18]), s[35:51]
	default:
		return api.Record{}, wrong
	}
	return r, ok
}

// wantUnpack holds Unpack of a text against what it should be.
func wantUnpack(t *testing.T, stripe int, s string, want api.Record, wantE api.Errno) {
	t.Helper()
	if r, e := Unpack(stripe, s); r != want || e != wantE {
		t.Fatalf("Unpack(%d, %q): %+v %d, not %+v %d", stripe, s, r, e, want, wantE)
	}
}

// wantPack holds Right and Pack of a record against what they should be, and Unpack of what was packed, too.
func wantPack(t *testing.T, stripe int, r api.Record, right bool) {
	t.Helper()
	if Right(r) != right {
		t.Fatalf("Right(%+v): %v", r, !right)
	}
	s, e := Pack(stripe, r)
	if !right || stripe < 0 || stripe >= mostStripes {
		if s != "" || e != wrong {
			t.Fatalf("Pack(%d, %+v): %q %d", stripe, r, s, e)
		}
		return
	}
	if want := laid(stripe, r); s != want || e != ok {
		t.Fatalf("Pack(%d, %+v): %q %d, not %q", stripe, r, s, e, want)
	}
	wantUnpack(t, stripe, s, r, ok)
}

// The kinds of right records, each with all that it may have.
var (
	empty = api.Record{}
	plain = api.Record{Used: true, Fence: 5, Done: api.Tag{Epoch: 4, Seq: 3}, Block: "abcdefghijklmnop"}
	twice = api.Record{Used: true, Fence: 5, Done: api.Tag{Epoch: 4, Seq: 3}, Block: "abcdefghijklmnop", Open: true, Intent: api.Tag{Epoch: 5, Seq: 1}, Mask: 6, Staged: "ABCDEFGHIJKLMNOP"}
	clean = api.Record{Used: true, Block: "\x00\x00\x00\x00\x00\x00\x00\x00\x00\x00\x00\x00\x00\x00\x00\x00"}
)

func kinds() []api.Record {
	return []api.Record{empty, {Fence: 7}, plain, twice, clean}
}

// The errors are those numbers that the document tells.
func TestErrors(t *testing.T) {
	if ok != 0 || bad != 1 || gone != 70 || wrong != 80 {
		t.Fatal(ok, bad, gone, wrong)
	}
}

// S1: the chapter's example.
func TestExample(t *testing.T) {
	s, e := Pack(3, api.Record{Used: true, Block: "abcdefghijklmnop"})
	if e != ok || len(s) != size || s[:35] != "S\x03\x01"+noughts(15)+"\x00abcdefghijklmnop" {
		t.Fatalf("%q %d", s, e)
	}
}

// S1: whole sectors, byte by byte, with their sums.
func TestSectors(t *testing.T) {
	for _, x := range []struct {
		stripe int
		r      api.Record
		want   string
	}{
		{0, empty, "S" + noughts(60) + "\x15\x25\x7D"},
		{7, api.Record{Fence: 0x030201}, "S\x07\x00\x01\x02\x03" + noughts(55) + "\xF0\x5B\x3A"},
		{3, api.Record{Used: true, Block: "abcdefghijklmnop"}, "S\x03\x01" + noughts(16) + "abcdefghijklmnop" + noughts(26) + "\x89\x9F\xAE"},
		{
			1,
			api.Record{Used: true, Fence: 0xC3B2A1, Done: api.Tag{Epoch: 0xF6E5D4, Seq: 0x030201}, Block: "0123456789abcdef"},
			"S\x01\x01\xA1\xB2\xC3\xD4\xE5\xF6\x01\x02\x03" + noughts(7) + "0123456789abcdef" + noughts(26) + "\xD6\xC1\xBD",
		},
		{
			6,
			api.Record{Used: true, Fence: greatest, Done: api.Tag{Epoch: 1, Seq: 256}, Block: "0123456789abcdef", Open: true, Intent: api.Tag{Epoch: 65536, Seq: 0x332211}, Mask: 63, Staged: "fedcba9876543210"},
			"S\x06\x03\xFF\xFF\xFF\x01\x00\x00\x00\x01\x00\x00\x00\x01\x11\x22\x33\x3F0123456789abcdeffedcba9876543210" + noughts(10) + "\x56\x9B\x74",
		},
	} {
		if s, e := Pack(x.stripe, x.r); s != x.want || len(s) != size || e != ok {
			t.Errorf("%d: %q %d, not %q", x.stripe, s, e, x.want)
		}
		wantUnpack(t, x.stripe, x.want, x.r, ok)
	}
}

// S1: each kind of record with one number at each of its edges, and beyond.
func TestEachNumber(t *testing.T) {
	numbers := []struct {
		name string
		set  func(r *api.Record, n int)
		most int
		used bool // there is such a number only if it is Used
		open bool
	}{
		{"Fence", func(r *api.Record, n int) { r.Fence = n }, greatest, false, false},
		{"Done.Epoch", func(r *api.Record, n int) { r.Done.Epoch = n }, greatest, true, false},
		{"Done.Seq", func(r *api.Record, n int) { r.Done.Seq = n }, greatest, true, false},
		{"Intent.Epoch", func(r *api.Record, n int) { r.Intent.Epoch = n }, greatest, true, true},
		{"Intent.Seq", func(r *api.Record, n int) { r.Intent.Seq = n }, greatest, true, true},
		{"Mask", func(r *api.Record, n int) { r.Mask = n }, mostMask, true, true},
	}
	values := append([]int{0, 1, 2, 3, 7, 8, 31, 32, 62, mostMask, mostMask + 1, mostMask + 2, 127, 128, 255, 256, 257, 65535, 65536, 1 << 23, greatest - 1, greatest}, far...)
	for _, x := range numbers {
		for _, r := range kinds() {
			for _, n := range values {
				now := r
				x.set(&now, n)
				right := n >= 0 && n <= x.most && (n == 0 || (r.Used || !x.used) && (r.Open || !x.open))
				if right != may(now) {
					t.Fatalf("%s %d of %+v", x.name, n, r)
				}
				wantPack(t, 2, now, right)
			}
		}
	}
}

// S1: Block and Staged of each length, with and without Used and Open.
func TestEachLengthOfBlocks(t *testing.T) {
	for block := range 40 {
		for staged := range 40 {
			for flags := range 4 {
				r := api.Record{Used: flags&1 != 0, Open: flags&2 != 0, Block: some(block, block), Staged: some(staged+100, staged)}
				right := flags == 0 && block == 0 && staged == 0 || flags == 1 && block == 16 && staged == 0 || flags == 3 && block == 16 && staged == 16
				wantPack(t, 4, r, right)
			}
		}
	}
	for _, length := range []int{61, 64, 256 + 16, 65536 + 16, 1 << 20} {
		wantPack(t, 0, api.Record{Used: true, Block: some(1, length)}, false)
		wantPack(t, 0, api.Record{Block: some(1, length)}, false)
		r := twice
		r.Staged = some(1, length)
		wantPack(t, 0, r, false)
		r.Open = false
		wantPack(t, 0, r, false)
	}
	// Eight runes of two bytes are a block, sixteen of them are none.
	wantPack(t, 0, api.Record{Used: true, Block: strings.Repeat("é", 8)}, true)
	wantPack(t, 0, api.Record{Used: true, Block: strings.Repeat("é", 16)}, false)
}

// S1: what goes with Open alone, and with Used alone.
func TestNothingWithoutItsFlag(t *testing.T) {
	for _, right := range []api.Record{
		empty, {Fence: 1}, {Fence: greatest}, clean, plain, twice,
		{Used: true, Block: noughts(16), Open: true, Staged: noughts(16)},
		{Used: true, Fence: 1, Block: noughts(16), Open: true, Intent: api.Tag{Epoch: 2}, Staged: noughts(16)},
	} {
		wantPack(t, 1, right, true)
	}
	for _, not := range []api.Record{
		{Open: true},
		{Open: true, Staged: noughts(16)},
		{Open: true, Intent: api.Tag{Epoch: 1, Seq: 1}, Mask: 1, Staged: noughts(16)},
		{Open: true, Block: noughts(16), Staged: noughts(16)},
		{Done: api.Tag{Epoch: 1}},
		{Done: api.Tag{Seq: 1}},
		{Done: api.Tag{Epoch: 1, Seq: 1}},
		{Intent: api.Tag{Epoch: 1}},
		{Intent: api.Tag{Seq: 1}},
		{Mask: 1},
		{Block: noughts(16)},
		{Staged: noughts(16)},
		{Used: true},
		{Used: true, Block: noughts(16), Intent: api.Tag{Epoch: 1}},
		{Used: true, Block: noughts(16), Intent: api.Tag{Seq: 1}},
		{Used: true, Block: noughts(16), Mask: 1},
		{Used: true, Block: noughts(16), Mask: 63},
		{Used: true, Block: noughts(16), Staged: noughts(16)},
		{Used: true, Block: noughts(16), Open: true},
		{Used: true, Open: true, Staged: noughts(16)},
		{Used: true, Open: true},
	} {
		wantPack(t, 1, not, false)
	}
}

// S1: records whose parts are each at one of its edges, all of them together.
func TestEachRecord(t *testing.T) {
	numbers := []int{-1, 0, 1, greatest, greatest + 1}
	lengths := []int{0, 15, 16, 17}
	for flags := range 4 {
		for parts := range 5 * 5 * 5 * 5 * 5 * 5 * 4 * 4 {
			pick := func(l []int) int {
				n := l[parts%len(l)]
				parts /= len(l)
				return n
			}
			r := api.Record{Used: flags&1 != 0, Open: flags&2 != 0, Fence: pick(numbers), Done: api.Tag{Epoch: pick(numbers), Seq: pick(numbers)}, Intent: api.Tag{Epoch: pick(numbers), Seq: pick(numbers)}}
			r.Mask = pick([]int{-1, 0, 1, 63, 64})
			r.Block, r.Staged = "abcdefghijklmnopq"[:pick(lengths)], "ABCDEFGHIJKLMNOPQ"[:pick(lengths)]
			if Right(r) != may(r) {
				t.Fatalf("Right(%+v): %v", r, Right(r))
			}
			if Right(r) {
				wantPack(t, 5, r, true)
			}
		}
	}
}

// S1: each stripe, and none.
func TestEachStripe(t *testing.T) {
	for _, r := range kinds() {
		for stripe := range mostStripes {
			wantPack(t, stripe, r, true)
			wantUnpack(t, stripe, noughts(size), empty, ok)
		}
		for _, stripe := range slices.Concat([]int{8}, small, far) {
			wantPack(t, stripe, r, true)
			wantUnpack(t, stripe, noughts(size), empty, wrong)
			wantUnpack(t, stripe, laid(stripe&7, r), empty, wrong)
			wantUnpack(t, stripe, laid(stripe&255, r), empty, wrong)
		}
	}
	// A record that is not right and a stripe that there is not.
	wantPack(t, 8, api.Record{Open: true}, false)
	wantPack(t, -1, api.Record{Mask: 1}, false)
}

// S1, S4: Unpack undoes Pack, for each stripe; of another stripe's sector nothing is taken up.
func TestUnpackUndoesPack(t *testing.T) {
	next := chance(1)
	for range 3000 {
		r := someRecord(next)
		for stripe := range mostStripes {
			wantPack(t, stripe, r, true)
		}
		s := laid(next(mostStripes), r)
		for stripe := -1; stripe <= mostStripes; stripe++ {
			if stripe != int(s[1]) {
				wantUnpack(t, stripe, s, empty, wrong)
			}
		}
	}
}

// S4: unlike records, or of unlike stripes, are packed unlike.
func TestPackedUnlike(t *testing.T) {
	seen := map[string]string{}
	next := chance(2)
	var l []api.Record
	for _, r := range kinds() {
		l = append(l, r)
		for range 400 {
			// Like it but for one part.
			now, other := r, someRecord(next)
			switch next(6) {
			case 0:
				now.Fence = other.Fence
			case 1:
				now.Done = other.Done
			case 2:
				now.Intent = other.Intent
			case 3:
				now.Mask = other.Mask
			case 4:
				now.Block = other.Block
			case 5:
				now.Staged = other.Staged
			}
			l = append(l, now)
		}
	}
	for _, r := range l {
		for stripe := range mostStripes {
			s, e := Pack(stripe, r)
			if e != ok {
				continue
			}
			name := fmt.Sprintf("%d %+v", stripe, r)
			if before, there := seen[s]; there && before != name {
				t.Fatalf("%s and %s: %q", before, name, s)
			}
			seen[s] = name
		}
	}
	if len(seen) < 1000 {
		t.Fatal(len(seen))
	}
}

// S1: texts that are too short, or too long.
func TestUnpackOfOtherLengths(t *testing.T) {
	for _, r := range kinds() {
		for stripe := range mostStripes {
			s := laid(stripe, r)
			for n := range size {
				wantUnpack(t, stripe, s[:n], empty, wrong)
				wantUnpack(t, stripe, s[size-n:], empty, wrong)
				if n != 61 {
					wantUnpack(t, stripe, sealed(s[:n]), empty, wrong)
				}
			}
			for _, more := range []string{"\x00", "S", noughts(3), noughts(64), s} {
				wantUnpack(t, stripe, s+more, empty, wrong)
				wantUnpack(t, stripe, more+s, empty, wrong)
			}
			wantUnpack(t, stripe, sealed(s[:61]+"\x00"), empty, wrong)
			wantUnpack(t, stripe, sealed(s[:61]+noughts(3)), empty, wrong)
		}
	}
	for n := range 300 {
		e := wrong
		if n == size {
			e = ok
		}
		wantUnpack(t, 0, noughts(n), empty, e)
		wantUnpack(t, 7, noughts(n), empty, e)
		wantUnpack(t, -1, noughts(n), empty, wrong)
		wantUnpack(t, 8, noughts(n), empty, wrong)
	}
}

// S1: almost noughts are no record.
func TestAlmostNoughts(t *testing.T) {
	for at := range size {
		for value := 1; value < 256; value++ {
			b := make([]byte, size)
			b[at] = byte(value)
			wantUnpack(t, 0, string(b), empty, wrong)
		}
	}
}

// S1: a byte is another one: without the right sum it is no record.
func TestTurnedBytes(t *testing.T) {
	for i, r := range kinds() {
		s := laid(i, r)
		for at := range size {
			for turn := 1; turn < 256; turn++ {
				b := []byte(s)
				b[at] ^= byte(turn)
				wantUnpack(t, i, string(b), empty, wrong)
			}
		}
	}
}

// S1: a byte is another one, and the sum is right: then it is a record, or none, by what the byte tells.
func TestSealedBytes(t *testing.T) {
	records := 0
	next := chance(3)
	for i, r := range append(kinds(), someRecord(next), someRecord(next), someRecord(next)) {
		s := laid(i, r)
		for at := range 61 {
			for value := range 256 {
				now := sealed(s[:at] + string([]byte{byte(value)}) + s[at+1:61])
				want, e := lifted(i, now)
				wantUnpack(t, i, now, want, e)
				if e == ok {
					records++
				}
			}
		}
	}
	if records < 10000 {
		t.Fatal(records)
	}
}

// S1: sectors whose sum is right and whose record is not, one fault each.
func TestSealedFaults(t *testing.T) {
	for _, x := range []struct {
		r     api.Record
		at    int
		value string
	}{
		{plain, 0, "R"}, {plain, 0, "T"}, {plain, 0, "\x00"}, {plain, 0, "\xD3"},
		{plain, 1, "\x01"}, {plain, 1, "\x03"}, {plain, 1, "\x0A"}, {plain, 1, "\x08"},
		{plain, 2, "\x00"}, {plain, 2, "\x02"}, {plain, 2, "\x04"}, {plain, 2, "\x05"}, {plain, 2, "\x81"},
		{twice, 2, "\x00"}, {twice, 2, "\x01"}, {twice, 2, "\x02"}, {twice, 2, "\x07"}, {twice, 2, "\xFF"},
		{empty, 2, "\x02"}, {empty, 2, "\x04"}, {empty, 2, "\x80"},
		{empty, 6, "\x01"}, {empty, 9, "\x01"}, {empty, 11, "\x01"}, {empty, 12, "\x01"}, {empty, 18, "\x01"}, {empty, 19, "\x01"}, {empty, 34, "\x01"}, {empty, 35, "\x01"},
		{plain, 12, "\x01"}, {plain, 15, "\x01"}, {plain, 17, "\x01"}, {plain, 18, "\x01"}, {plain, 35, "\x01"}, {plain, 50, "\x01"},
		{twice, 18, "\x40"}, {twice, 18, "\x80"}, {twice, 18, "\xC6"}, {twice, 18, "\xFF"},
		{twice, 51, "\x01"}, {twice, 60, "\x01"}, {plain, 55, "\x80"}, {empty, 60, "\x80"},
	} {
		s := laid(2, x.r)
		wantUnpack(t, 2, s, x.r, ok)
		wantUnpack(t, 2, sealed(s[:x.at]+x.value+s[x.at+1:61]), empty, wrong)
	}
}

// S1: another sum than that one: by other bytes, in another order, of other bytes.
func TestOtherSums(t *testing.T) {
	for i, r := range kinds() {
		s := laid(i, r)
		sum := s[61:]
		for _, other := range []string{
			sum[2:] + sum[1:2] + sum[:1], noughts(3), "\xFF\xFF\xFF", three(crc.Sum(s[:60])), three(crc.Go(0, s[:61])), sum[1:] + sum[:1],
		} {
			if other != sum {
				wantUnpack(t, i, s[:61]+other, empty, wrong)
			}
		}
	}
}

// turned is a text, with the bits of a pattern turned from a bit of it on: the highest bit of a byte comes first.
func turned(s string, bit int, pattern uint32) string {
	b := []byte(s)
	for i := range 24 {
		if at := bit + i; at < 8*size && pattern>>i&1 != 0 {
			b[at/8] ^= 128 >> (at % 8)
		}
	}
	return string(b)
}

// S4: a sector of which a run of at most 24 bits was turned is no record.
func TestTurnedRuns(t *testing.T) {
	next := chance(4)
	for i, r := range kinds() {
		s := laid(i, r)
		for bit := range 8 * size {
			// Each pattern that begins with a turned bit: short ones, then some of up to 24 bits.
			for pattern := uint32(1); pattern < 256; pattern += 2 {
				wantUnpack(t, i, turned(s, bit, pattern), empty, wrong)
			}
			for range 60 {
				wantUnpack(t, i, turned(s, bit, uint32(next(1<<24))|1), empty, wrong)
			}
			wantUnpack(t, i, turned(s, bit, 1<<24-1), empty, wrong)
			wantUnpack(t, i, turned(s, bit, 1<<23|1), empty, wrong)
		}
	}
}

// made is a shelf of so many stripes on a new platter of so many sectors.
func made(t *testing.T, sectors, stripes int) (*Shelf, *platter.Platter) {
	t.Helper()
	p, e := platter.New(sectors)
	if e != ok {
		t.Fatal(e)
	}
	s, e := New(p, stripes)
	if s == nil || e != ok {
		t.Fatalf("New on %d sectors, %d stripes: %v %d", sectors, stripes, s, e)
	}
	return s, p
}

// wantRecords holds what Get answers of each stripe, and of one below and above them, against these records.
func wantRecords(t *testing.T, name string, s *Shelf, want ...api.Record) {
	t.Helper()
	for stripe, w := range want {
		if r, e := s.Get(stripe); r != w || e != ok {
			t.Fatalf("%s: Get(%d): %+v %d, not %+v", name, stripe, r, e, w)
		}
	}
	for _, stripe := range []int{-1, len(want)} {
		if r, e := s.Get(stripe); r != empty || e != wrong {
			t.Fatalf("%s: Get(%d): %+v %d", name, stripe, r, e)
		}
	}
}

// wantOff holds what a shelf answers whose platter is off: of which stripes there are not is told all the same.
func wantOff(t *testing.T, name string, s *Shelf, stripes int) {
	t.Helper()
	for stripe := -2; stripe < stripes+2; stripe++ {
		want := gone
		if stripe < 0 || stripe >= stripes {
			want = wrong
		}
		if r, e := s.Get(stripe); r != empty || e != want {
			t.Fatalf("%s: Get(%d): %+v %d", name, stripe, r, e)
		}
		if e := s.Set(stripe, plain); e != want {
			t.Fatalf("%s: Set(%d): %d", name, stripe, e)
		}
		if e := s.Set(stripe, api.Record{Mask: 1}); e != wrong {
			t.Fatalf("%s: Set(%d) of no right record: %d", name, stripe, e)
		}
	}
	if e := s.Format(); e != gone {
		t.Fatalf("%s: Format: %d", name, e)
	}
}

// set puts a record there that must get there.
func set(t *testing.T, s *Shelf, stripe int, r api.Record) {
	t.Helper()
	if e := s.Set(stripe, r); e != ok {
		t.Fatalf("Set(%d, %+v): %d", stripe, r, e)
	}
}

// S2: each number of stripes on each number of sectors; a shelf does nothing to its platter when it is made.
func TestNew(t *testing.T) {
	for sectors := 1; sectors <= 64; sectors++ {
		p, _ := platter.New(sectors)
		p.Write(0, some(1, size))
		image := p.Image()
		for stripes := -2; stripes <= 70; stripes++ {
			s, e := New(p, stripes)
			if stripes < 1 || stripes > mostStripes || stripes > sectors {
				if s != nil || e != bad {
					t.Fatalf("%d sectors, %d stripes: %v %d", sectors, stripes, s, e)
				}
				continue
			}
			if s == nil || e != ok {
				t.Fatalf("%d sectors, %d stripes: %v %d", sectors, stripes, s, e)
			}
			wantRecords(t, "new", s, make([]api.Record, stripes)...)
		}
		if p.Acts() != 1 || !slices.Equal(p.Image(), image) || !slices.Equal(p.Cached(), []int{0}) {
			t.Fatal(p.Acts(), p.Cached())
		}
	}
}

func TestNoShelf(t *testing.T) {
	most, _ := platter.New(64)
	for _, stripes := range slices.Concat([]int{0, 9}, small, far) {
		if s, e := New(most, stripes); s != nil || e != bad {
			t.Errorf("%d stripes: %v %d", stripes, s, e)
		}
	}
	for _, stripes := range slices.Concat([]int{0, 1, 2, 3, 4, 5, 6, 7, 8, 9}, small, far) {
		if s, e := New(nil, stripes); s != nil || e != bad {
			t.Errorf("no platter, %d stripes: %v %d", stripes, s, e)
		}
	}
}

// S2: a shelf can stand on a platter that is off, and on one that bears something.
func TestNewAsItIs(t *testing.T) {
	s, p := made(t, 3, 3)
	set(t, s, 1, plain)
	p.Arm(1)
	p.Flush()
	again, e := New(p, 2)
	if e != ok || !p.Off() {
		t.Fatal(e, p.Off())
	}
	wantOff(t, "off", again, 2)
	p.Restart(nil)
	wantRecords(t, "on", again, empty, plain)
	wantRecords(t, "on", s, empty, plain, empty)
}

// S2: Format makes each stripe a block of noughts, whatever was there, and only the stripes.
func TestFormat(t *testing.T) {
	for stripes := 1; stripes <= mostStripes; stripes++ {
		s, p := made(t, stripes+2, stripes)
		for range 2 {
			acts := p.Acts()
			if e := s.Format(); e != ok || p.Acts() != acts+2*stripes || len(p.Cached()) != 0 {
				t.Fatal(e, p.Acts(), p.Cached())
			}
			wantRecords(t, "formatted", s, slices.Repeat([]api.Record{clean}, stripes)...)
			for n, text := range p.Image() {
				want := noughts(size)
				if n < stripes {
					want = laid(n, clean)
				}
				if text != want {
					t.Fatalf("sector %d: %q", n, text)
				}
			}
			p.Restart([]int{1, 1, 1})
			wantRecords(t, "restarted", s, slices.Repeat([]api.Record{clean}, stripes)...)
			next := chance(uint64(stripes))
			for stripe := range stripes {
				set(t, s, stripe, someRecord(next))
			}
		}
	}
}

// S2, S4: Format on a platter that is armed with each act that there is, and with Restart behind it in both ways.
func TestFormatCutOff(t *testing.T) {
	for stripes := 1; stripes <= mostStripes; stripes++ {
		for n := 1; n <= 2*stripes+1; n++ {
			for _, keep := range [][]int{nil, {0}, {1}, {0, 1}, {1, 1}} {
				name := fmt.Sprintf("%d stripes, act %d, keep %v", stripes, n, keep)
				s, p := made(t, stripes, stripes)
				want := make([]api.Record, stripes)
				next := chance(uint64(n))
				for stripe := range stripes {
					want[stripe] = someRecord(next)
					set(t, s, stripe, want[stripe])
				}
				p.Arm(n)
				e := s.Format()
				if cut := n <= 2*stripes; cut && (e != gone || !p.Off()) || !cut && (e != ok || p.Off()) {
					t.Fatalf("%s: %d", name, e)
				}
				if p.Off() {
					wantOff(t, name, s, stripes)
				}
				p.Restart(keep)
				for i := range stripes {
					// The first act of a stripe is its Write, the second one is its Flush.
					if done := 2*i + 2; done < n || done == n && len(keep) > 0 && keep[0] == 1 {
						want[i] = clean
					}
				}
				wantRecords(t, name, s, want...)
			}
		}
	}
}

// S3, S4: Set on a platter that is armed with each act that there is, and with Restart behind it in both ways: of each kind of record over each.
func TestSetCutOff(t *testing.T) {
	for _, elder := range kinds() {
		for _, newer := range kinds() {
			for _, n := range []int{0, 1, 2, 3} {
				for _, keep := range [][]int{nil, {0}, {1}, {2, 1}, {-1}} {
					name := fmt.Sprintf("%+v over %+v, act %d, keep %v", newer, elder, n, keep)
					s, p := made(t, 4, 4)
					set(t, s, 2, elder)
					set(t, s, 3, twice)
					p.Arm(n)
					e := s.Set(2, newer)
					if cut := n == 1 || n == 2; cut && (e != gone || !p.Off()) || !cut && (e != ok || p.Off()) {
						t.Fatalf("%s: %d", name, e)
					}
					if p.Off() {
						wantOff(t, name, s, 4)
					}
					p.Restart(keep)
					want := newer
					if n == 1 || n == 2 && (len(keep) == 0 || keep[0]%2 == 0) {
						want = elder
					}
					wantRecords(t, name, s, empty, empty, want, twice)
				}
			}
		}
	}
}

// S3: Set is two acts, and lasts; Get is none; what may not be is none.
func TestActs(t *testing.T) {
	s, p := made(t, 8, 8)
	for i, r := range kinds() {
		set(t, s, i, r)
		if p.Acts() != 2*i+2 || len(p.Cached()) != 0 || p.Image()[i] != laid(i, r) {
			t.Fatalf("Set(%d): %d acts, cached %v, %q", i, p.Acts(), p.Cached(), p.Image()[i])
		}
	}
	acts, image := p.Acts(), p.Image()
	for stripe := -3; stripe < 12; stripe++ {
		s.Get(stripe)
		if e := s.Set(stripe, api.Record{Open: true}); e != wrong {
			t.Fatal(e)
		}
	}
	if p.Acts() != acts || !slices.Equal(p.Image(), image) {
		t.Fatal(p.Acts())
	}
	wantRecords(t, "as they were", s, append(kinds(), empty, empty, empty)...)
}

// S3: of records that are not right, one fault each, none is put there.
func TestSetOfNoRecord(t *testing.T) {
	s, p := made(t, 2, 2)
	set(t, s, 0, twice)
	for _, r := range kinds() {
		for _, n := range far {
			for i := range 6 {
				now := r
				*[]*int{&now.Fence, &now.Done.Epoch, &now.Done.Seq, &now.Intent.Epoch, &now.Intent.Seq, &now.Mask}[i] = n
				if e := s.Set(0, now); e != wrong {
					t.Fatalf("%+v: %d", now, e)
				}
			}
		}
		for _, change := range []func(*api.Record){
			func(r *api.Record) { r.Block += "x" }, func(r *api.Record) { r.Staged += "x" },
			func(r *api.Record) { r.Block = "abcdefghijklmno" }, func(r *api.Record) { r.Staged = "abcdefghijklmno" },
			func(r *api.Record) { r.Used = !r.Used }, func(r *api.Record) { r.Open = !r.Open }, func(r *api.Record) { r.Mask = 64 },
		} {
			now := r
			change(&now)
			if e := s.Set(0, now); e != wrong {
				t.Fatalf("%+v: %d", now, e)
			}
		}
	}
	if p.Acts() != 2 {
		t.Fatal(p.Acts())
	}
	wantRecords(t, "as it was", s, twice, empty)
}

// S3: of shelves of each number of stripes, on platters with more sectors: stripes one less than the first one and one more than the last one, and far ones.
func TestNoSuchStripe(t *testing.T) {
	for stripes := 1; stripes <= mostStripes; stripes++ {
		s, p := made(t, 64, stripes)
		for stripe := stripes; stripe < 64; stripe++ {
			// There is a record in each sector that is not the shelf's.
			p.Write(stripe, laid(stripe, plain))
		}
		p.Flush()
		acts := p.Acts()
		for _, stripe := range slices.Concat([]int{-1, stripes, stripes + 1, 7 + stripes, 8}, small, far) {
			if stripe >= 0 && stripe < stripes {
				continue
			}
			if r, e := s.Get(stripe); r != empty || e != wrong {
				t.Fatalf("%d stripes: Get(%d): %+v %d", stripes, stripe, r, e)
			}
			for _, r := range append(kinds(), api.Record{Open: true}) {
				if e := s.Set(stripe, r); e != wrong {
					t.Fatalf("%d stripes: Set(%d): %d", stripes, stripe, e)
				}
			}
		}
		if p.Acts() != acts {
			t.Fatal(p.Acts())
		}
		for _, stripe := range []int{0, stripes - 1} {
			set(t, s, stripe, twice)
			if r, e := s.Get(stripe); r != twice || e != ok {
				t.Fatalf("%d stripes: Get(%d): %+v %d", stripes, stripe, r, e)
			}
		}
	}
}

// S3: sectors that bear no record are empty ones.
func TestGetOfNoRecord(t *testing.T) {
	s, p := made(t, 3, 3)
	next := chance(5)
	texts := []string{noughts(size), strings.Repeat("S", size), laid(0, plain), laid(2, twice), laid(7, plain), strings.Repeat("\xFF", size)}
	for range 300 {
		texts = append(texts, some(next(10000), size), turned(laid(1, someRecord(next)), next(8*size), uint32(next(1<<24))|1))
	}
	faulty := laid(1, twice)
	texts = append(texts, sealed(faulty[:18]+"\x40"+faulty[19:61]), sealed(faulty[:2]+"\x02"+faulty[3:61]), sealed(faulty[:60]+"\x01"), sealed("T"+faulty[1:61]))
	for _, text := range texts {
		set(t, s, 1, plain)
		p.Write(1, text)
		wantRecords(t, "cached", s, empty, empty, empty)
		p.Flush()
		wantRecords(t, fmt.Sprintf("%q", text), s, empty, empty, empty)
	}
	// It can be put there anew.
	set(t, s, 1, twice)
	wantRecords(t, "anew", s, empty, twice, empty)
}

// S3: Get reads the platter each time: what was written there, cached or not, and what became of it.
func TestGetReads(t *testing.T) {
	s, p := made(t, 2, 2)
	set(t, s, 0, plain)
	p.Write(0, laid(0, twice))
	wantRecords(t, "cached", s, twice, empty)
	p.Restart(nil)
	wantRecords(t, "forgotten", s, plain, empty)
	p.Write(1, laid(1, clean))
	p.Restart([]int{1})
	wantRecords(t, "kept", s, plain, clean)
	p.Lose()
	wantRecords(t, "lost", s, empty, empty)
	set(t, s, 1, twice)
	wantRecords(t, "anew", s, empty, twice)
}

// S3: Set flushes the platter, so all that is cached lasts.
func TestSetFlushes(t *testing.T) {
	s, p := made(t, 4, 2)
	p.Write(3, some(1, size))
	p.Write(0, laid(0, plain))
	set(t, s, 1, twice)
	if len(p.Cached()) != 0 || p.Acts() != 4 {
		t.Fatal(p.Cached(), p.Acts())
	}
	p.Restart(nil)
	wantRecords(t, "restarted", s, plain, twice)
	if p.Image()[3] != some(1, size) {
		t.Fatalf("%q", p.Image()[3])
	}
}

// book is a shelf on its platter, told another way: of each stripe the record that lasts, the one that was written last and may be forgotten, and the act at which the platter goes off by its number.
type book struct {
	lasting    []api.Record
	stripe     int // whose record may be forgotten: -1, if none
	fresh      api.Record
	acts, goes int
	off        bool
}

func booked(stripes int) *book {
	return &book{lasting: make([]api.Record, stripes), stripe: -1}
}

func (b *book) gone() bool {
	if !b.off {
		b.acts++
		b.off = b.acts == b.goes
	}
	return b.off
}

func (b *book) Set(stripe int, r api.Record) api.Errno {
	if stripe < 0 || stripe >= len(b.lasting) || !may(r) {
		return wrong
	}
	if b.gone() {
		return gone
	}
	b.stripe, b.fresh = stripe, r
	if b.gone() {
		return gone
	}
	b.rest(true)
	return ok
}

// rest lets what was written last, or forgets it.
func (b *book) rest(last bool) {
	if last && b.stripe >= 0 {
		b.lasting[b.stripe] = b.fresh
	}
	b.stripe = -1
}

func (b *book) Format() api.Errno {
	for i := range b.lasting {
		if b.Set(i, clean) != ok {
			return gone
		}
	}
	return ok
}

func (b *book) Restart(keep []int) {
	b.rest(len(keep) > 0 && keep[0]%2 != 0)
	b.off, b.goes = false, 0
}

// wantBook holds a shelf and its platter against a book.
func wantBook(t *testing.T, name string, s *Shelf, p *platter.Platter, b *book) {
	t.Helper()
	if p.Off() != b.off || p.Acts() != b.acts {
		t.Fatalf("%s: off %v, %d acts, not %v, %d", name, p.Off(), p.Acts(), b.off, b.acts)
	}
	if !b.off {
		wantRecords(t, name, s, b.lasting...)
		return
	}
	for stripe := range b.lasting {
		if r, e := s.Get(stripe); r != empty || e != gone {
			t.Fatalf("%s: Get(%d): %+v %d", name, stripe, r, e)
		}
	}
}

// someStep does one call that a chance picks on a shelf, or its platter, and on a book, and tells which one it was.
func someStep(t *testing.T, next func(int) int, s *Shelf, p *platter.Platter, b *book) string {
	t.Helper()
	var got, want api.Errno
	name := ""
	switch next(12) {
	case 0:
		name = "Format"
		got, want = s.Format(), b.Format()
	case 1, 2:
		n := next(9)
		name = fmt.Sprintf("Arm(%d)", n)
		p.Arm(n)
		b.goes = b.acts + n
		if n == 0 {
			b.goes = 0
		}
	case 3, 4:
		keep := [][]int{nil, {0}, {1}, {1, 0}, {0, 1}}[next(5)]
		name = fmt.Sprintf("Restart(%v)", keep)
		p.Restart(keep)
		b.Restart(keep)
	case 5:
		if next(3) == 0 {
			name = "Lose"
			p.Lose()
			*b = book{lasting: make([]api.Record, len(b.lasting)), stripe: -1, acts: b.acts}
		}
	default:
		stripe, r := next(len(b.lasting)+2)-1, someRecord(next)
		if next(6) == 0 {
			r.Mask++
		}
		name = fmt.Sprintf("Set(%d, %+v)", stripe, r)
		got, want = s.Set(stripe, r), b.Set(stripe, r)
	}
	if got != want {
		t.Fatalf("%s: %d, not %d", name, got, want)
	}
	return name
}

// S2 to S4: long scripts of chance.
func TestLongScripts(t *testing.T) {
	for seed := range 400 {
		next := chance(uint64(seed))
		stripes := 1 + next(mostStripes)
		s, p := made(t, stripes+next(3), stripes)
		b := booked(stripes)
		for range 80 {
			wantBook(t, someStep(t, next, s, p, b), s, p, b)
		}
	}
}

// S4, R4: shelves side by side, each on a platter of its own, know nothing of one another.
func TestSideBySide(t *testing.T) {
	for seed := range 60 {
		next := chance(uint64(seed))
		var shelves []*Shelf
		var platters []*platter.Platter
		var books []*book
		for range 2 {
			stripes := 1 + next(mostStripes)
			s, p := made(t, stripes, stripes)
			shelves, platters, books = append(shelves, s), append(platters, p), append(books, booked(stripes))
		}
		for range 60 {
			i := next(2)
			name := someStep(t, next, shelves[i], platters[i], books[i])
			for j, s := range shelves {
				wantBook(t, name, s, platters[j], books[j])
			}
		}
	}
}

// S3, R4: two shelves on one platter have what it has.
func TestTwoOnOnePlatter(t *testing.T) {
	s, p := made(t, 8, 8)
	other, e := New(p, 3)
	if e != ok {
		t.Fatal(e)
	}
	set(t, s, 1, plain)
	set(t, other, 2, twice)
	set(t, s, 5, plain)
	wantRecords(t, "one", s, empty, plain, twice, empty, empty, plain, empty, empty)
	wantRecords(t, "other", other, empty, plain, twice)
	if e := other.Format(); e != ok {
		t.Fatal(e)
	}
	wantRecords(t, "one", s, clean, clean, clean, empty, empty, plain, empty, empty)
}

// R3: what is answered, or kept, is a copy: that a text's memory changes changes nothing.
func TestTextsAreCopies(t *testing.T) {
	b := []byte(laid(1, twice))
	r, e := Unpack(1, unsafe.String(&b[0], len(b)))
	clear(b)
	if r != twice || e != ok {
		t.Fatalf("%+v %d", r, e)
	}
	block, staged := []byte(twice.Block), []byte(twice.Staged)
	given := twice
	given.Block, given.Staged = unsafe.String(&block[0], 16), unsafe.String(&staged[0], 16)
	s, _ := made(t, 2, 2)
	set(t, s, 1, given)
	packed, _ := Pack(1, given)
	if string(block) != twice.Block || string(staged) != twice.Staged {
		t.Fatalf("%q %q", block, staged)
	}
	clear(block)
	clear(staged)
	wantRecords(t, "kept", s, empty, twice)
	if packed != laid(1, twice) {
		t.Fatalf("%q", packed)
	}
}

// R3: what was got stays, whatever comes behind.
func TestAnswersStay(t *testing.T) {
	s, p := made(t, 1, 1)
	set(t, s, 0, twice)
	r, _ := s.Get(0)
	set(t, s, 0, clean)
	p.Lose()
	if r != twice {
		t.Fatalf("%+v", r)
	}
}
