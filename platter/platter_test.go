package platter

import (
	"fmt"
	"math"
	"slices"
	"strings"
	"testing"
	"unsafe"

	"windlass/api"
)

// The limits that the document names.
const (
	size        = 64
	mostSectors = 64
	greatest    = 1 << 40
)

// far are numbers that no sector has, that no platter has of sectors, and that are far away from any that may be.
var far = []int{
	-1, -2, -3, -63, -64, -65, -128, -256, math.MinInt8, math.MinInt16, math.MinInt32, math.MinInt32 - 1, -1 << 40, math.MinInt + 1, math.MinInt + 64, math.MinInt,
	65, 66, 127, 128, 129, 192, 255, 256, 257, 256 + 2, 65536, 65536 + 1, math.MaxInt32, 1 << 31, 1 << 32, 1<<32 + 1, 1<<32 + 64, 1 << 40, 1<<40 + 1,
	1 << 62, 1<<62 + 1, 3 << 61, math.MaxInt - 64, math.MaxInt - 63, math.MaxInt - 1, math.MaxInt,
}

// chance answers numbers from 0 on, below n, that look like chance, but are the same in each run.
func chance(state uint64) func(n int) int {
	return func(n int) int {
		state = state*6364136223846793005 + 1442695040888963407
		return int(state>>33) % n
	}
}

// sheet is a sector's text: that letter, all along; a point stands for noughts.
func sheet(letter byte) string {
	if letter == '.' {
		letter = 0
	}
	return strings.Repeat(string([]byte{letter}), size)
}

// some is a sector's text all of whose bytes look like chance.
func some(seed int) string {
	next := chance(uint64(seed))
	b := make([]byte, size)
	for i := range b {
		b[i] = byte(next(256))
	}
	return string(b)
}

// disk is what a platter can; a sketch can it, too.
type disk interface {
	Write(n int, s string) api.Errno
	Read(n int) (string, api.Errno)
	Flush() api.Errno
	Arm(n int) api.Errno
	Off() bool
	Restart(keep []int)
	Lose()
	Acts() int
	Cached() []int
	Sectors() int
	Image() []string
}

// sketch is a platter told another way: of each sector all texts are kept that it had since the one that lasts, which is the first one; and the act at which it goes off is told by its number.
type sketch struct {
	texts   [][]string
	acts    int
	goes    int // 0: at none
	resting bool
}

func sketched(sectors int) *sketch {
	return &sketch{texts: slices.Repeat([][]string{{sheet('.')}}, sectors)}
}

// gone counts an act, and tells whether it is refused because the platter is off.
func (k *sketch) gone() bool {
	if !k.resting {
		k.acts++
		k.resting = k.acts == k.goes
	}
	return k.resting
}

func (k *sketch) Write(n int, s string) api.Errno {
	switch {
	case k.gone():
		return api.ErrPlatterGone
	case n < 0, n >= len(k.texts), len(s) != size:
		return api.ErrArg
	}
	k.texts[n] = append(slices.Clone(k.texts[n]), s)
	return api.OK
}

func (k *sketch) Read(n int) (string, api.Errno) {
	switch {
	case k.resting:
		return "", api.ErrPlatterGone
	case n < 0, n >= len(k.texts):
		return "", api.ErrArg
	}
	return k.texts[n][len(k.texts[n])-1], api.OK
}

func (k *sketch) Flush() api.Errno {
	if k.gone() {
		return api.ErrPlatterGone
	}
	for n, l := range k.texts {
		k.texts[n] = l[len(l)-1:]
	}
	return api.OK
}

func (k *sketch) Arm(n int) api.Errno {
	switch {
	case n < 0, n > greatest:
		return api.ErrArg
	case n == 0:
		k.goes = 0
	default:
		k.goes = k.acts + n
	}
	return api.OK
}

func (k *sketch) Off() bool { return k.resting }

func (k *sketch) Restart(keep []int) {
	for n, l := range k.texts {
		if len(l) == 1 {
			continue
		}
		last := len(keep) > 0 && (keep[0]%2 == 1 || keep[0]%2 == -1)
		if last {
			l = l[len(l)-1:]
		}
		k.texts[n] = l[:1]
		keep = keep[min(1, len(keep)):]
	}
	k.resting, k.goes = false, 0
}

func (k *sketch) Lose() {
	k.texts = sketched(len(k.texts)).texts
	k.resting, k.goes = false, 0
}

func (k *sketch) Acts() int { return k.acts }

func (k *sketch) Cached() []int {
	var l []int
	for n, texts := range k.texts {
		if len(texts) > 1 {
			l = append(l, n)
		}
	}
	return l
}

func (k *sketch) Sectors() int { return len(k.texts) }

func (k *sketch) Image() []string {
	var l []string
	for _, texts := range k.texts {
		l = append(l, texts[0])
	}
	return l
}

// call is one call, and how it is told.
type call struct {
	name string
	on   func(d disk) api.Errno
}

func write(n int, letter byte) call { return writeText(n, sheet(letter)) }

func writeText(n int, s string) call {
	return call{fmt.Sprintf("Write(%d, %.4q, %d bytes)", n, s, len(s)), func(d disk) api.Errno { return d.Write(n, s) }}
}

func flush() call { return call{"Flush", disk.Flush} }

func arm(n int) call {
	return call{fmt.Sprintf("Arm(%d)", n), func(d disk) api.Errno { return d.Arm(n) }}
}

func restart(keep ...int) call {
	return call{fmt.Sprintf("Restart(%v)", keep), func(d disk) api.Errno { d.Restart(keep); return api.OK }}
}

func lose() call { return call{"Lose", func(d disk) api.Errno { d.Lose(); return api.OK }} }

func read(n int) call {
	return call{fmt.Sprintf("Read(%d)", n), func(d disk) api.Errno { _, e := d.Read(n); return e }}
}

// made is a new platter of so many sectors.
func made(t *testing.T, sectors int) *Platter {
	t.Helper()
	p, e := New(sectors)
	if p == nil || e != api.OK {
		t.Fatalf("New(%d): %v %d", sectors, p, e)
	}
	return p
}

// wantSame holds all that a platter tells against a sketch.
func wantSame(t *testing.T, name string, p *Platter, k *sketch) {
	t.Helper()
	if p.Sectors() != k.Sectors() || p.Acts() != k.Acts() || p.Off() != k.Off() {
		t.Fatalf("%s: %d sectors, %d acts, off %v, not %d, %d, %v", name, p.Sectors(), p.Acts(), p.Off(), k.Sectors(), k.Acts(), k.Off())
	}
	if got, want := p.Cached(), k.Cached(); !slices.Equal(got, want) {
		t.Fatalf("%s: cached %v, not %v", name, got, want)
	}
	if got, want := p.Image(), k.Image(); !slices.Equal(got, want) {
		t.Fatalf("%s: lasts %.4q, not %.4q", name, got, want)
	}
	for n := -1; n <= k.Sectors(); n++ {
		got, e := p.Read(n)
		if want, wantE := k.Read(n); got != want || e != wantE {
			t.Fatalf("%s: Read(%d): %.4q (%d bytes) %d, not %.4q %d", name, n, got, len(got), e, want, wantE)
		}
	}
}

// play does the calls on a platter and on a sketch, and holds what they answer against one another; with each, all that they tell behind each call, too.
func play(t *testing.T, sectors int, script []call, each bool) {
	t.Helper()
	p, k := made(t, sectors), sketched(sectors)
	for i, c := range script {
		got, want := c.on(p), c.on(k)
		if got != want {
			t.Fatalf("%s: %d, not %d", names(script[:i+1]), got, want)
		}
		if each {
			wantSame(t, c.name, p, k)
		}
	}
	if !each {
		wantSame(t, names(script), p, k)
	}
}

func names(script []call) string {
	var l []string
	for _, c := range script {
		l = append(l, c.name)
	}
	return strings.Join(l, ", ")
}

// line is a call, what it answers, and what is told behind it: of each sector the letter of what is read, the numbers of those that are cached, of each the letter of what lasts, how many acts there were. With nothing read the platter is off.
type line struct {
	call
	e      api.Errno
	read   string
	cached []int
	image  string
	acts   int
}

// follow does what a script says, on a platter of so many sectors, and holds against it what is told behind each line.
func follow(t *testing.T, name string, sectors int, script []line) {
	t.Helper()
	p := made(t, sectors)
	for i, l := range script {
		told := fmt.Sprintf("%s, line %d: %s", name, i, l.name)
		if e := l.on(p); e != l.e {
			t.Fatalf("%s: %d, not %d", told, e, l.e)
		}
		wantTold(t, told, p, l)
	}
}

func wantTold(t *testing.T, told string, p *Platter, l line) {
	t.Helper()
	if p.Off() != (l.read == "") || p.Acts() != l.acts || p.Sectors() != len(l.image) || !slices.Equal(p.Cached(), l.cached) {
		t.Fatalf("%s: off %v, %d acts, %d sectors, cached %v", told, p.Off(), p.Acts(), p.Sectors(), p.Cached())
	}
	image := p.Image()
	if len(image) != len(l.image) {
		t.Fatalf("%s: %d sectors last", told, len(image))
	}
	for n := range len(l.image) {
		want, wantE := "", api.ErrPlatterGone
		if l.read != "" {
			want, wantE = sheet(l.read[n]), api.OK
		}
		if s, e := p.Read(n); s != want || e != wantE {
			t.Fatalf("%s: Read(%d): %.4q %d", told, n, s, e)
		}
		if image[n] != sheet(l.image[n]) {
			t.Fatalf("%s: sector %d: %.4q lasts", told, n, image[n])
		}
	}
}

// The errors, in short.
const (
	ok   = api.OK
	bad  = api.ErrArg
	gone = api.ErrPlatterGone
)

var none []int

// The errors are those numbers that the document tells.
func TestErrors(t *testing.T) {
	if ok != 0 || bad != 1 || gone != 70 {
		t.Fatal(ok, bad, gone)
	}
}

// D2, D3: the chapter's example.
func TestExample(t *testing.T) {
	follow(t, "example", 2, []line{
		{write(0, 'a'), ok, "a.", []int{0}, "..", 1},
		{flush(), ok, "a.", none, "a.", 2},
		{write(0, 'b'), ok, "b.", []int{0}, "a.", 3},
		{write(1, 'c'), ok, "bc", []int{0, 1}, "a.", 4},
		{restart(0, 1), ok, "ac", none, "ac", 4},
		{arm(1), ok, "ac", none, "ac", 4},
		{write(0, 'd'), gone, "", none, "ac", 5},
	})
}

// D1: platters of each number of sectors that may be, as they are at first.
func TestEachNumberOfSectors(t *testing.T) {
	for sectors := 1; sectors <= mostSectors; sectors++ {
		p := made(t, sectors)
		wantSame(t, "new", p, sketched(sectors))
		if p.Sectors() != sectors || p.Acts() != 0 || p.Off() || len(p.Cached()) != 0 || len(p.Image()) != sectors {
			t.Fatal(sectors, p.Sectors(), p.Acts(), p.Off(), p.Cached(), len(p.Image()))
		}
		for n, s := range p.Image() {
			if r, e := p.Read(n); s != strings.Repeat("\x00", size) || r != s || e != ok {
				t.Fatalf("%d sectors, sector %d: %q, %q %d", sectors, n, s, r, e)
			}
		}
	}
}

func TestNoPlatter(t *testing.T) {
	for _, sectors := range append([]int{0}, far...) {
		if p, e := New(sectors); p != nil || e != bad {
			t.Errorf("New(%d): %v %d", sectors, p, e)
		}
	}
}

// D2: what is written is read, and does not last till it is flushed.
func TestWriteAndFlush(t *testing.T) {
	follow(t, "one sector", 1, []line{
		{flush(), ok, ".", none, ".", 1},
		{write(0, 'a'), ok, "a", []int{0}, ".", 2},
		{write(0, 'b'), ok, "b", []int{0}, ".", 3},
		{flush(), ok, "b", none, "b", 4},
		{flush(), ok, "b", none, "b", 5},
		{write(0, 'b'), ok, "b", []int{0}, "b", 6},
		{write(0, '.'), ok, ".", []int{0}, "b", 7},
		{flush(), ok, ".", none, ".", 8},
	})
	follow(t, "a few", 4, []line{
		{write(3, 'a'), ok, "...a", []int{3}, "....", 1},
		{write(0, 'b'), ok, "b..a", []int{0, 3}, "....", 2},
		{write(2, 'c'), ok, "b.ca", []int{0, 2, 3}, "....", 3},
		{write(3, 'd'), ok, "b.cd", []int{0, 2, 3}, "....", 4},
		{read(3), ok, "b.cd", []int{0, 2, 3}, "....", 4},
		{flush(), ok, "b.cd", none, "b.cd", 5},
		{write(1, 'e'), ok, "becd", []int{1}, "b.cd", 6},
		{write(0, 'f'), ok, "fecd", []int{0, 1}, "b.cd", 7},
		{flush(), ok, "fecd", none, "fecd", 8},
	})
}

// D2: texts that are not as long as a sector, and sectors that there are not; each such call is an act.
func TestRefusedWrites(t *testing.T) {
	follow(t, "texts", 2, []line{
		{writeText(0, strings.Repeat("a", 63)), bad, "..", none, "..", 1},
		{writeText(0, strings.Repeat("a", 65)), bad, "..", none, "..", 2},
		{writeText(0, ""), bad, "..", none, "..", 3},
		{writeText(0, strings.Repeat("a", 64)), ok, "a.", []int{0}, "..", 4},
		{writeText(0, strings.Repeat("b", 63)), bad, "a.", []int{0}, "..", 5},
		{writeText(0, strings.Repeat("b", 65)), bad, "a.", []int{0}, "..", 6},
		{writeText(1, strings.Repeat("b", 128)), bad, "a.", []int{0}, "..", 7},
		{write(2, 'c'), bad, "a.", []int{0}, "..", 8},
		{write(-1, 'c'), bad, "a.", []int{0}, "..", 9},
		{writeText(2, "c"), bad, "a.", []int{0}, "..", 10},
		{flush(), ok, "a.", none, "a.", 11},
	})
}

func TestEachLengthOfTexts(t *testing.T) {
	p := made(t, 1)
	for n := range 1000 {
		want := bad
		if n == size {
			want = ok
		}
		if e := p.Write(0, strings.Repeat("x", n)); e != want || p.Acts() != n+1 {
			t.Fatalf("%d bytes: %d, %d acts", n, e, p.Acts())
		}
	}
	// 32 runes of two bytes are 64 bytes, 64 of them are not.
	if e := p.Write(0, strings.Repeat("é", 32)); e != ok {
		t.Error(e)
	}
	if e := p.Write(0, strings.Repeat("é", 64)); e != bad {
		t.Error(e)
	}
	if s, e := p.Read(0); s != strings.Repeat("é", 32) || e != ok {
		t.Errorf("%q %d", s, e)
	}
}

// D2: of platters of one, of a few and of 64 sectors, sectors one less than the first one and one more than the last one, and far ones.
func TestNoSuchSector(t *testing.T) {
	for _, sectors := range []int{1, 2, 3, 7, 63, 64} {
		p, k := made(t, sectors), sketched(sectors)
		for _, n := range append([]int{-1, sectors, sectors + 1}, far...) {
			if s, e := p.Read(n); s != "" || e != bad {
				t.Fatalf("%d sectors: Read(%d): %q %d", sectors, n, s, e)
			}
			if e := p.Write(n, sheet('a')); e != bad {
				t.Fatalf("%d sectors: Write(%d): %d", sectors, n, e)
			}
			k.Write(n, sheet('a'))
			wantSame(t, "a refused write", p, k)
		}
		for _, n := range []int{0, sectors - 1} {
			if e := p.Write(n, sheet('b')); e != ok {
				t.Fatalf("%d sectors: Write(%d): %d", sectors, n, e)
			}
			k.Write(n, sheet('b'))
		}
		wantSame(t, "the first one and the last one", p, k)
	}
}

// D2: a sector is all its bytes: each byte that may be, at each place.
func TestEveryByte(t *testing.T) {
	p := made(t, mostSectors)
	for first := range 256 {
		var l []string
		for n := range mostSectors {
			b := make([]byte, size)
			for i := range b {
				b[i] = byte(first + n + i)
			}
			l = append(l, string(b))
			if e := p.Write(n, l[n]); e != ok {
				t.Fatal(e)
			}
		}
		for n, s := range l {
			if got, e := p.Read(n); got != s || e != ok {
				t.Fatalf("Read(%d): %q %d", n, got, e)
			}
		}
		if p.Flush(); !slices.Equal(p.Image(), l) {
			t.Fatalf("%q", p.Image())
		}
	}
}

// D2: an armed act is refused, be it a Write or a Flush, and nothing is done; while it is off there are no acts.
func TestArmed(t *testing.T) {
	follow(t, "a write", 2, []line{
		{write(0, 'a'), ok, "a.", []int{0}, "..", 1},
		{arm(2), ok, "a.", []int{0}, "..", 1},
		{write(0, 'b'), ok, "b.", []int{0}, "..", 2},
		{write(1, 'c'), gone, "", []int{0}, "..", 3},
		{write(1, 'c'), gone, "", []int{0}, "..", 3},
		{flush(), gone, "", []int{0}, "..", 3},
		{read(0), gone, "", []int{0}, "..", 3},
		{restart(1, 1), ok, "b.", none, "b.", 3},
		{write(1, 'c'), ok, "bc", []int{1}, "b.", 4},
	})
	follow(t, "a flush", 2, []line{
		{write(1, 'a'), ok, ".a", []int{1}, "..", 1},
		{arm(1), ok, ".a", []int{1}, "..", 1},
		{flush(), gone, "", []int{1}, "..", 2},
		{flush(), gone, "", []int{1}, "..", 2},
		{write(0, 'b'), gone, "", []int{1}, "..", 2},
		{restart(), ok, "..", none, "..", 2},
		{flush(), ok, "..", none, "..", 3},
	})
	follow(t, "at a write over what is cached", 1, []line{
		{write(0, 'a'), ok, "a", []int{0}, ".", 1},
		{arm(1), ok, "a", []int{0}, ".", 1},
		{write(0, 'b'), gone, "", []int{0}, ".", 2},
		{restart(1), ok, "a", none, "a", 2},
	})
}

// D2: what is no act does not count: neither Read, Arm nor what tells alone.
func TestOnlyActsCount(t *testing.T) {
	follow(t, "between", 1, []line{
		{arm(2), ok, ".", none, ".", 0},
		{read(0), ok, ".", none, ".", 0},
		{read(1), bad, ".", none, ".", 0},
		{arm(-1), bad, ".", none, ".", 0},
		{read(0), ok, ".", none, ".", 0},
		{write(0, 'a'), ok, "a", []int{0}, ".", 1},
		{read(0), ok, "a", []int{0}, ".", 1},
		{flush(), gone, "", []int{0}, ".", 2},
	})
}

// D2: armed anew, in the place of an older number: a smaller one, a greater one, the same one.
func TestArmedAnew(t *testing.T) {
	follow(t, "later", 1, []line{
		{arm(1), ok, ".", none, ".", 0},
		{arm(3), ok, ".", none, ".", 0},
		{flush(), ok, ".", none, ".", 1},
		{flush(), ok, ".", none, ".", 2},
		{flush(), gone, "", none, ".", 3},
	})
	follow(t, "sooner", 1, []line{
		{arm(5), ok, ".", none, ".", 0},
		{flush(), ok, ".", none, ".", 1},
		{arm(1), ok, ".", none, ".", 1},
		{write(0, 'a'), gone, "", none, ".", 2},
	})
	follow(t, "from now on", 1, []line{
		{arm(2), ok, ".", none, ".", 0},
		{flush(), ok, ".", none, ".", 1},
		{arm(2), ok, ".", none, ".", 1},
		{flush(), ok, ".", none, ".", 2},
		{flush(), gone, "", none, ".", 3},
	})
}

// D2: armed with none; and refused numbers leave it as it was.
func TestArmedWithNone(t *testing.T) {
	follow(t, "none", 1, []line{
		{arm(0), ok, ".", none, ".", 0},
		{flush(), ok, ".", none, ".", 1},
		{arm(1), ok, ".", none, ".", 1},
		{arm(0), ok, ".", none, ".", 1},
		{flush(), ok, ".", none, ".", 2},
		{write(0, 'a'), ok, "a", []int{0}, ".", 3},
	})
	for _, n := range far {
		if n >= 0 && n <= greatest {
			continue
		}
		follow(t, "refused", 1, []line{
			{arm(n), bad, ".", none, ".", 0},
			{flush(), ok, ".", none, ".", 1},
			{arm(2), ok, ".", none, ".", 1},
			{arm(n), bad, ".", none, ".", 1},
			{flush(), ok, ".", none, ".", 2},
			{flush(), gone, "", none, ".", 3},
		})
	}
}

// D2: each number up to some, and the greatest ones that may be.
func TestArmedWithEachNumber(t *testing.T) {
	for n := 1; n <= 300; n++ {
		p := made(t, 1)
		p.Flush()
		if e := p.Arm(n); e != ok {
			t.Fatalf("Arm(%d): %d", n, e)
		}
		for i := 1; i <= n; i++ {
			e, want := p.Flush(), ok
			if i == n {
				want = gone
			}
			if e != want || p.Off() != (i == n) || p.Acts() != i+1 {
				t.Fatalf("Arm(%d), act %d: %d, off %v, %d acts", n, i, e, p.Off(), p.Acts())
			}
		}
	}
	for _, n := range []int{1 << 16, 1<<16 + 1, math.MaxInt32, 1<<31 + 1, 1 << 32, 1<<32 + 1, 1<<32 + 500, 1<<39 + 7, greatest - 1, greatest} {
		p := made(t, 1)
		if e := p.Arm(n); e != ok {
			t.Fatalf("Arm(%d): %d", n, e)
		}
		for i := range 1000 {
			if e := p.Flush(); e != ok || p.Off() {
				t.Fatalf("Arm(%d), act %d: %d", n, i, e)
			}
		}
	}
	p := made(t, 1)
	if e := p.Arm(greatest + 1); e != bad {
		t.Fatal(e)
	}
}

// D2: an act that is refused for its arguments is one still: it can be the armed one, and off is told ahead of what is wrong.
func TestRefusedActs(t *testing.T) {
	follow(t, "counted", 1, []line{
		{arm(3), ok, ".", none, ".", 0},
		{write(1, 'a'), bad, ".", none, ".", 1},
		{writeText(0, "a"), bad, ".", none, ".", 2},
		{write(0, 'a'), gone, "", none, ".", 3},
	})
	follow(t, "the armed one, no such sector", 1, []line{
		{arm(1), ok, ".", none, ".", 0},
		{write(1, 'a'), gone, "", none, ".", 1},
		{restart(), ok, ".", none, ".", 1},
	})
	follow(t, "the armed one, no such text", 1, []line{
		{arm(1), ok, ".", none, ".", 0},
		{writeText(0, "a"), gone, "", none, ".", 1},
		{write(1, 'a'), gone, "", none, ".", 1},
		{write(-1, 'a'), gone, "", none, ".", 1},
		{writeText(0, ""), gone, "", none, ".", 1},
		{read(1), gone, "", none, ".", 1},
		{read(-1), gone, "", none, ".", 1},
		{restart(), ok, ".", none, ".", 1},
		{read(1), bad, ".", none, ".", 1},
	})
}

// D2, D3: armed while it is off: a Restart leaves nothing of it, and what may not be is refused.
func TestArmedWhileOff(t *testing.T) {
	for _, wake := range []call{restart(), restart(1), lose()} {
		follow(t, wake.name, 1, []line{
			{arm(1), ok, ".", none, ".", 0},
			{flush(), gone, "", none, ".", 1},
			{arm(1), ok, "", none, ".", 1},
			{arm(-1), bad, "", none, ".", 1},
			{arm(greatest + 1), bad, "", none, ".", 1},
			{arm(0), ok, "", none, ".", 1},
			{flush(), gone, "", none, ".", 1},
			{arm(2), ok, "", none, ".", 1},
			{wake, ok, ".", none, ".", 1},
			{flush(), ok, ".", none, ".", 2},
			{flush(), ok, ".", none, ".", 3},
			{flush(), ok, ".", none, ".", 4},
		})
	}
}

// D3: of what is cached some lasts, by keep: of no number, of fewer, of as many, of more.
func TestRestartKeeps(t *testing.T) {
	for i, x := range []struct {
		keep []int
		want string // of the sectors 1, 2, 4, which were a, b, d, and are x, y, z
	}{
		{nil, "abd"},
		{[]int{}, "abd"},
		{[]int{0}, "abd"},
		{[]int{1}, "xbd"},
		{[]int{1, 1}, "xyd"},
		{[]int{0, 1}, "ayd"},
		{[]int{0, 0, 1}, "abz"},
		{[]int{1, 1, 1}, "xyz"},
		{[]int{1, 0, 1}, "xbz"},
		{[]int{0, 0, 0}, "abd"},
		{[]int{1, 1, 1, 1, 1, 1}, "xyz"},
		{[]int{0, 0, 0, 1, 1, 1}, "abd"},
		{[]int{0, 1, 0, 1, 0}, "ayd"},
		{[]int{3, 5, 7}, "xyz"},
		{[]int{2, 4, 6}, "abd"},
		{[]int{-1, -2, -3}, "xbz"},
		{[]int{-2, -1, -4}, "ayd"},
		{[]int{math.MaxInt, math.MinInt, math.MinInt + 1}, "xbz"},
		{[]int{math.MinInt, math.MaxInt, math.MaxInt - 1}, "ayd"},
		{[]int{1 << 32, 1<<32 + 1, 256}, "ayd"},
		{[]int{257, -255, -256}, "xyd"},
	} {
		image := "." + x.want[:2] + "c" + x.want[2:]
		follow(t, fmt.Sprint(i), 5, []line{
			{write(4, 'd'), ok, "....d", []int{4}, ".....", 1},
			{write(1, 'a'), ok, ".a..d", []int{1, 4}, ".....", 2},
			{write(3, 'c'), ok, ".a.cd", []int{1, 3, 4}, ".....", 3},
			{write(2, 'b'), ok, ".abcd", []int{1, 2, 3, 4}, ".....", 4},
			{flush(), ok, ".abcd", none, ".abcd", 5},
			{write(4, 'z'), ok, ".abcz", []int{4}, ".abcd", 6},
			{write(2, 'y'), ok, ".aycz", []int{2, 4}, ".abcd", 7},
			{write(1, 'w'), ok, ".wycz", []int{1, 2, 4}, ".abcd", 8},
			{write(1, 'x'), ok, ".xycz", []int{1, 2, 4}, ".abcd", 9},
			{restart(x.keep...), ok, image, none, image, 9},
			{flush(), ok, image, none, image, 10},
		})
	}
}

// D3: keep with nothing cached, on a platter of one and of 64 sectors.
func TestRestartOfNothing(t *testing.T) {
	follow(t, "one", 1, []line{
		{restart(1), ok, ".", none, ".", 0},
		{restart(), ok, ".", none, ".", 0},
		{write(0, 'a'), ok, "a", []int{0}, ".", 1},
		{flush(), ok, "a", none, "a", 2},
		{restart(0, 1), ok, "a", none, "a", 2},
		{restart(1, 0), ok, "a", none, "a", 2},
	})
	p := made(t, mostSectors)
	for _, keep := range [][]int{nil, {1}, slices.Repeat([]int{1}, 64), slices.Repeat([]int{1}, 1000)} {
		p.Restart(keep)
		wantSame(t, "nothing cached", p, sketched(mostSectors))
	}
}

// D3: 64 sectors, all cached, with keep of each length.
func TestRestartOf64(t *testing.T) {
	for length := range 70 {
		p, k := made(t, mostSectors), sketched(mostSectors)
		next := chance(uint64(length))
		var keep []int
		for range length {
			keep = append(keep, next(9)-4)
		}
		for i := range mostSectors {
			n := i * 37 % mostSectors // not in their order
			p.Write(n, some(n))
			k.Write(n, some(n))
		}
		p.Restart(keep)
		for n, s := range p.Image() {
			want := sheet('.')
			if n < length && (keep[n] == -3 || keep[n] == -1 || keep[n] == 1 || keep[n] == 3) {
				want = some(n)
			}
			if s != want {
				t.Fatalf("keep %v: sector %d: %.4q", keep, n, s)
			}
		}
		k.Restart(keep)
		wantSame(t, "a restart", p, k)
	}
}

// D3: a Restart while it is on cuts it off all the same, and it is armed no more.
func TestRestartWhileOn(t *testing.T) {
	follow(t, "on", 2, []line{
		{write(0, 'a'), ok, "a.", []int{0}, "..", 1},
		{write(1, 'b'), ok, "ab", []int{0, 1}, "..", 2},
		{arm(1), ok, "ab", []int{0, 1}, "..", 2},
		{restart(2, 3), ok, ".b", none, ".b", 2},
		{write(0, 'c'), ok, "cb", []int{0}, ".b", 3},
		{arm(2), ok, "cb", []int{0}, ".b", 3},
		{flush(), ok, "cb", none, "cb", 4},
		{restart(), ok, "cb", none, "cb", 4},
		{flush(), ok, "cb", none, "cb", 5},
		{flush(), ok, "cb", none, "cb", 6},
	})
}

// D3: Lose, on and off: all is gone but the acts.
func TestLose(t *testing.T) {
	follow(t, "on", 3, []line{
		{write(0, 'a'), ok, "a..", []int{0}, "...", 1},
		{flush(), ok, "a..", none, "a..", 2},
		{write(0, 'b'), ok, "b..", []int{0}, "a..", 3},
		{write(2, 'c'), ok, "b.c", []int{0, 2}, "a..", 4},
		{arm(1), ok, "b.c", []int{0, 2}, "a..", 4},
		{lose(), ok, "...", none, "...", 4},
		{flush(), ok, "...", none, "...", 5},
		{restart(1, 1, 1), ok, "...", none, "...", 5},
		{write(1, 'd'), ok, ".d.", []int{1}, "...", 6},
		{restart(1), ok, ".d.", none, ".d.", 6},
		{lose(), ok, "...", none, "...", 6},
		{lose(), ok, "...", none, "...", 6},
	})
	follow(t, "off", 2, []line{
		{write(1, 'a'), ok, ".a", []int{1}, "..", 1},
		{flush(), ok, ".a", none, ".a", 2},
		{write(0, 'b'), ok, "ba", []int{0}, ".a", 3},
		{arm(1), ok, "ba", []int{0}, ".a", 3},
		{flush(), gone, "", []int{0}, ".a", 4},
		{lose(), ok, "..", none, "..", 4},
		{write(0, 'c'), ok, "c.", []int{0}, "..", 5},
		{flush(), ok, "c.", none, "c.", 6},
	})
}

// D1 to D3: each script of up to four calls, on a platter of two sectors.
func TestEachShortScript(t *testing.T) {
	calls := []call{
		write(0, 'a'), write(0, 'b'), write(1, 'c'), write(2, 'd'), writeText(1, strings.Repeat("e", 63)), writeText(0, strings.Repeat("f", 65)),
		flush(), arm(0), arm(1), arm(2), arm(-1), restart(), restart(1), restart(0, 1), restart(-1, -1, 1), lose(),
	}
	var grow func(script []call)
	grow = func(script []call) {
		play(t, 2, script, false)
		if len(script) == 4 {
			return
		}
		for _, c := range calls {
			grow(append(script[:len(script):len(script)], c))
		}
	}
	grow(nil)
}

// someCall is one that a chance picks for a platter of so many sectors: most of them do something.
func someCall(next func(int) int, sectors int) call {
	switch next(16) {
	case 0, 1, 2:
		return flush()
	case 3:
		return arm(next(12))
	case 4:
		var keep []int
		for range next(sectors + 3) {
			keep = append(keep, next(7)-3)
		}
		return restart(keep...)
	case 5:
		if next(4) == 0 {
			return lose()
		}
		return writeText(next(sectors), some(next(1000))[1:])
	case 6:
		return writeText(next(sectors+4)-2, some(next(1000)))
	case 7:
		return arm([]int{-1, 0, 1, greatest, greatest + 1, math.MinInt, math.MaxInt}[next(7)])
	}
	return writeText(next(sectors), some(next(1000)))
}

// D1 to D3: long scripts of chance, on platters of one, of a few and of 64 sectors.
func TestLongScripts(t *testing.T) {
	for _, sectors := range []int{1, 2, 3, 5, 8, 63, 64} {
		for seed := range 30 {
			next := chance(uint64(1000*sectors + seed))
			var script []call
			for range 200 {
				script = append(script, someCall(next, sectors))
			}
			play(t, sectors, script, true)
		}
	}
}

// D4: what was flushed lasts through any Restart, where it was not written since; else there is the elder text or the last one.
func TestFlushedLasts(t *testing.T) {
	for seed := range 500 {
		next := chance(uint64(seed))
		sectors := 1 + next(mostSectors)
		p := made(t, sectors)
		for n := range sectors {
			p.Write(n, some(n))
		}
		p.Flush()
		last := map[int]string{}
		for range next(2 * sectors) {
			n := next(sectors)
			last[n] = some(1000 + next(1000))
			p.Write(n, last[n])
		}
		var keep []int
		for range next(2 * sectors) {
			keep = append(keep, next(5)-2)
		}
		if next(2) == 0 {
			p.Arm(1)
			p.Flush()
		}
		p.Restart(keep)
		for n := range sectors {
			s, e := p.Read(n)
			again, written := last[n]
			if e != ok || s != p.Image()[n] || s != some(n) && !(written && s == again) {
				t.Fatalf("sector %d of %d: %.4q %d", n, sectors, s, e)
			}
		}
	}
}

// D4: a Restart behind a Flush, or behind a Restart, is nothing.
func TestRestartIsNothing(t *testing.T) {
	for seed := range 300 {
		next := chance(uint64(seed))
		sectors := 1 + next(9)
		p, k := made(t, sectors), sketched(sectors)
		for range 20 {
			c := someCall(next, sectors)
			c.on(p)
			c.on(k)
		}
		if p.Off() || next(2) == 0 {
			p.Restart(nil)
			k.Restart(nil)
		} else {
			p.Arm(0)
			k.Arm(0)
			p.Flush()
			k.Flush()
		}
		wantSame(t, "ahead", p, k)
		p.Restart(slices.Repeat([]int{1, -1, 0}, next(9)))
		wantSame(t, "behind", p, k)
	}
}

// D4: sectors know nothing of one another: a call for one leaves all others as they were.
func TestOtherSectorsStay(t *testing.T) {
	p := made(t, mostSectors)
	want := slices.Repeat([]string{sheet('.')}, mostSectors)
	for i := range 500 {
		n := i * 29 % mostSectors
		want[n] = some(i)
		p.Write(n, want[n])
		for m, s := range want {
			if got, e := p.Read(m); got != s || e != ok {
				t.Fatalf("Write(%d): Read(%d): %.4q %d", n, m, got, e)
			}
		}
		if i%50 == 0 {
			p.Flush()
		}
	}
}

// D4, R4: platters side by side know nothing of one another.
func TestSideBySide(t *testing.T) {
	follow(t, "alone", 1, []line{{write(0, 'a'), ok, "a", []int{0}, ".", 1}})
	for seed := range 100 {
		next := chance(uint64(seed))
		sizes := []int{1 + next(4), 1 + next(4), mostSectors}
		var platters []*Platter
		var sketches []*sketch
		for _, n := range sizes {
			platters, sketches = append(platters, made(t, n)), append(sketches, sketched(n))
		}
		for range 60 {
			i := next(len(sizes))
			c := someCall(next, sizes[i])
			if got, want := c.on(platters[i]), c.on(sketches[i]); got != want {
				t.Fatalf("%s: %d, not %d", c.name, got, want)
			}
			for j, p := range platters {
				wantSame(t, c.name, p, sketches[j])
			}
		}
	}
}

// R3: keep is not written into, nor what stands behind its length, and it is not kept.
func TestKeepStays(t *testing.T) {
	p := made(t, 4)
	for n := range 4 {
		p.Write(n, some(n))
	}
	room := []int{9, 1, 0, 3, 5, 7, 11}
	keep := room[1:3]
	p.Restart(keep)
	if !slices.Equal(room, []int{9, 1, 0, 3, 5, 7, 11}) {
		t.Fatal(room)
	}
	keep[0], keep[1] = 0, 1
	want := []string{some(0), sheet('.'), sheet('.'), sheet('.')}
	if !slices.Equal(p.Image(), want) {
		t.Fatalf("%.4q", p.Image())
	}
}

// R3: what was written is a copy: that the text's memory changes changes nothing.
func TestTextsAreCopies(t *testing.T) {
	p := made(t, 1)
	b := []byte(some(1))
	p.Write(0, unsafe.String(&b[0], len(b)))
	b[0]++
	if s, _ := p.Read(0); s != some(1) {
		t.Fatalf("%q", s)
	}
	p.Flush()
	b[1]++
	if s, _ := p.Read(0); s != some(1) || p.Image()[0] != some(1) {
		t.Fatalf("%q", s)
	}
}

// R3: what was read, or told, stays as it was, whatever comes behind.
func TestAnswersStay(t *testing.T) {
	p := made(t, 2)
	p.Write(1, sheet('a'))
	s, _ := p.Read(1)
	cached, image := p.Cached(), p.Image()
	p.Flush()
	lasting, _ := p.Read(1)
	p.Write(1, sheet('b'))
	p.Write(0, sheet('c'))
	p.Flush()
	p.Lose()
	if s != sheet('a') || lasting != sheet('a') || !slices.Equal(cached, []int{1}) || !slices.Equal(image, []string{sheet('.'), sheet('.')}) {
		t.Fatalf("%.4q %.4q %v %.4q", s, lasting, cached, image)
	}
}

// R3: lists are new memory, spare room too.
func TestListsAreNew(t *testing.T) {
	p, k := made(t, 5), sketched(5)
	for _, n := range []int{4, 1, 2} {
		p.Write(n, some(n))
		k.Write(n, some(n))
	}
	spoil := func() {
		cached, other := p.Cached(), p.Cached()
		image, beside := p.Image(), p.Image()
		for i := range cached[:cap(cached)] {
			cached[:cap(cached)][i] = -7
		}
		for i := range image[:cap(image)] {
			image[:cap(image)][i] = "spoilt"
		}
		if !slices.Equal(other, k.Cached()) || !slices.Equal(beside, k.Image()) {
			t.Fatalf("%v %.4q", other, beside)
		}
		wantSame(t, "spoilt", p, k)
	}
	spoil()
	p.Flush()
	k.Flush()
	spoil()
}
