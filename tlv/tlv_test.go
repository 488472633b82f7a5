package tlv

import (
	"math"
	"slices"
	"strings"
	"testing"
	"unsafe"

	"windlass/api"
)

// most is the greatest number that has a text.
const most = 1 << 40

// chance answers numbers from 0 on, below n, that look like chance, but are the same in each run.
func chance(state uint64) func(n int) int {
	return func(n int) int {
		state = state*6364136223846793005 + 1442695040888963407
		return int(state>>33) % n
	}
}

// some is a text of size bytes that look like chance.
func some(size int) string {
	next := chance(uint64(size))
	b := make([]byte, size)
	for i := range b {
		b[i] = byte(next(256))
	}
	return string(b)
}

// several are n fields with tags and texts of many kinds.
func several(n int) []api.Field {
	next := chance(uint64(1000 + n))
	l := make([]api.Field, n)
	for i := range l {
		l[i] = api.Field{Tag: 1 + next(255), Text: some(next(401))}
	}
	return l
}

// told is Lay of right fields, told another way: text by text.
func told(l []api.Field) string {
	s := ""
	for _, f := range l {
		size := len(f.Text)
		s += string([]byte{byte(f.Tag), byte(size % 256), byte(size / 256)}) + f.Text
	}
	return s
}

// laid tells whether s is Lay of some fields, of left ones at the most.
func laid(s string, left int) bool {
	if s == "" {
		return true
	}
	if left == 0 || len(s) < 3 || s[0] == 0 {
		return false
	}
	size := int(s[2])*256 + int(s[1])
	return size <= 400 && 3+size <= len(s) && laid(s[3+size:], left-1)
}

func wantText(t *testing.T, name, got string, e api.Errno, text string) {
	t.Helper()
	if got != text || e != api.OK {
		t.Errorf("%s: %.40q %d, not %.40q", name, got, e, text)
	}
}

func wantFields(t *testing.T, name string, got []api.Field, e api.Errno, l []api.Field) {
	t.Helper()
	if !slices.Equal(got, l) || e != api.OK {
		t.Errorf("%s: %d fields, error %d, not these %d", name, len(got), e, len(l))
	}
}

func refusedLay(t *testing.T, name string, l []api.Field) {
	t.Helper()
	if s, e := Lay(l); s != "" || e != api.ErrTlvForm {
		t.Errorf("Lay, %s: %.40q %d, not ErrTlvForm", name, s, e)
	}
}

func refusedTake(t *testing.T, name, s string) {
	t.Helper()
	if l, e := Take(s); len(l) != 0 || e != api.ErrTlvForm {
		t.Errorf("Take, %s: %d fields, error %d, not ErrTlvForm", name, len(l), e)
	}
}

func refusedNum(t *testing.T, n int) {
	t.Helper()
	if s, e := Num(n); s != "" || e != api.ErrTlvForm {
		t.Errorf("Num of %d: %q %d, not ErrTlvForm", n, s, e)
	}
}

func refusedGet(t *testing.T, s string) {
	t.Helper()
	if n, e := Get(s); n != 0 || e != api.ErrTlvForm {
		t.Errorf("Get of %.40q: %d %d, not ErrTlvForm", s, n, e)
	}
}

// both wants s to be Lay of l, and l to be Take of s.
func both(t *testing.T, name string, l []api.Field, s string) {
	t.Helper()
	got, e := Lay(l)
	wantText(t, "Lay, "+name, got, e, s)
	back, e := Take(s)
	wantFields(t, "Take, "+name, back, e, l)
}

// F1: a tag, a length by two bytes, the lower one first, a text.
func TestFields(t *testing.T) {
	both(t, "no fields", nil, "")
	both(t, "the example", []api.Field{{Tag: 7, Text: "ab"}}, "\x07\x02\x00ab")
	both(t, "an empty text", []api.Field{{Tag: 7}}, "\x07\x00\x00")
	both(t, "the least tag", []api.Field{{Tag: 1, Text: "x"}}, "\x01\x01\x00x")
	both(t, "the greatest tag", []api.Field{{Tag: 255, Text: "x"}}, "\xff\x01\x00x")
	both(t, "255 bytes", []api.Field{{Tag: 9, Text: some(255)}}, "\x09\xff\x00"+some(255))
	both(t, "256 bytes", []api.Field{{Tag: 9, Text: some(256)}}, "\x09\x00\x01"+some(256))
	both(t, "257 bytes", []api.Field{{Tag: 9, Text: some(257)}}, "\x09\x01\x01"+some(257))
	both(t, "400 bytes", []api.Field{{Tag: 9, Text: some(400)}}, "\x09\x90\x01"+some(400))
	both(t, "bytes that are no letters", []api.Field{{Tag: 200, Text: "\x00\xff\xc3"}, {Tag: 2, Text: "é"}}, "\xc8\x03\x00\x00\xff\xc3\x02\x02\x00\xc3\xa9")
	both(t, "in their order", []api.Field{{Tag: 2, Text: "b"}, {Tag: 1, Text: "a"}, {Tag: 2, Text: "b"}}, "\x02\x01\x00b\x01\x01\x00a\x02\x01\x00b")
	both(t, "a text that looks like a field", []api.Field{{Tag: 1, Text: "\x02\x01\x00a"}, {Tag: 3}}, "\x01\x04\x00\x02\x01\x00a\x03\x00\x00")
}

func TestNoFieldsAnyList(t *testing.T) {
	both(t, "a list without elements", []api.Field{}, "")
	both(t, "one with room", make([]api.Field, 0, 9), "")
}

func TestEveryTag(t *testing.T) {
	for tag := 1; tag <= 255; tag++ {
		both(t, "a tag", []api.Field{{Tag: tag, Text: "t"}}, string([]byte{byte(tag), 1, 0, 't'}))
	}
}

func TestEverySize(t *testing.T) {
	for size := range 401 {
		l := []api.Field{{Tag: 4, Text: some(size)}, {Tag: 5, Text: "on"}}
		both(t, "a size", l, told(l))
	}
}

func TestEveryCount(t *testing.T) {
	for n := range 65 {
		l := several(n)
		both(t, "a count", l, told(l))
	}
	full := slices.Repeat([]api.Field{{Tag: 255, Text: some(400)}}, 64)
	both(t, "64 of the greatest", full, told(full))
}

// F1: what Lay refuses.
func TestLayTooMany(t *testing.T) {
	for _, n := range []int{65, 66, 128, 1000} {
		refusedLay(t, "too many", several(n))
		refusedLay(t, "too many empty ones", slices.Repeat([]api.Field{{Tag: 1}}, n))
	}
}

func TestLayWrongField(t *testing.T) {
	for _, f := range []api.Field{
		{}, {Tag: 0, Text: "x"}, {Tag: -1, Text: "x"}, {Tag: 256, Text: "x"}, {Tag: 257, Text: "x"},
		{Tag: 1 << 32, Text: "x"}, {Tag: 1<<32 + 1, Text: "x"}, {Tag: -255}, {Tag: math.MaxInt}, {Tag: math.MinInt}, {Tag: math.MinInt + 1},
		{Tag: 1, Text: some(401)}, {Tag: 255, Text: some(512)}, {Tag: 1, Text: some(65535)}, {Tag: 1, Text: some(65536)}, {Tag: 1, Text: some(65537)},
		{Tag: 0, Text: some(401)},
	} {
		refusedLay(t, "alone", []api.Field{f})
		for at := range 64 {
			refusedLay(t, "among others", slices.Insert(several(63), at, f))
		}
	}
}

// F1: what Take refuses: all that is Lay of no fields.
func TestTakeCut(t *testing.T) {
	ends := map[int]bool{}
	l := []api.Field{{Tag: 1, Text: some(300)}, {Tag: 2}, {Tag: 3, Text: "abc"}, {Tag: 4, Text: some(256)}}
	for n := range len(l) + 1 {
		ends[len(told(l[:n]))] = true
	}
	s := told(l)
	for at := range len(s) + 1 {
		if !ends[at] {
			refusedTake(t, "cut", s[:at])
		}
	}
	if len(ends) != 5 {
		t.Fatal("the fields have not five ends")
	}
}

func TestTakeSomethingBehind(t *testing.T) {
	for _, n := range []int{0, 1, 5, 63} {
		s := told(several(n))
		for _, more := range []string{"\x00", "\x01", "\x01\x00", "\x01\x01\x00", "\x00\x00\x00", "\x00\x01\x00a", "\x01\x00\x01", "\xff\xff\xff", "\x01\x91\x01" + some(401)} {
			refusedTake(t, "with something behind", s+more)
		}
	}
}

func TestTakeTagNought(t *testing.T) {
	refusedTake(t, "alone", "\x00\x00\x00")
	refusedTake(t, "with a text", "\x00\x02\x00ab")
	refusedTake(t, "ahead of a field", "\x00\x00\x00\x01\x00\x00")
	refusedTake(t, "behind a field", "\x01\x00\x00\x00\x00\x00")
}

func TestTakeTooLong(t *testing.T) {
	for _, size := range []int{401, 402, 511, 512, 656, 1000, 32768, 65535} {
		s := string([]byte{5, byte(size), byte(size >> 8)}) + some(size)
		refusedTake(t, "a whole field that is too long", s)
		refusedTake(t, "that, and a field", s+"\x01\x00\x00")
		refusedTake(t, "a field, and that", "\x01\x00\x00"+s)
		refusedTake(t, "a length and no text", s[:3])
	}
}

func TestTakeTooMany(t *testing.T) {
	for _, n := range []int{65, 66, 128, 10000} {
		refusedTake(t, "too many", strings.Repeat("\x01\x00\x00", n))
		refusedTake(t, "too many with texts", strings.Repeat("\x09\x01\x00x", n))
	}
	refusedTake(t, "too many of the greatest", told(slices.Repeat([]api.Field{{Tag: 255, Text: some(400)}}, 65)))
	refusedTake(t, "64, and one byte", strings.Repeat("\x01\x00\x00", 64)+"\x01")
}

// F1: of short texts just those are taken up that are laid, and each as what it is.
func TestTakeShortTexts(t *testing.T) {
	bytes := []byte{0, 1, 2, 3, 255}
	texts := []string{""}
	for range 7 {
		for _, s := range texts {
			takesJustLaid(t, s)
		}
		var longer []string
		for _, s := range texts {
			for _, b := range bytes {
				longer = append(longer, s+string([]byte{b}))
			}
		}
		texts = longer
	}
}

func TestTakeChance(t *testing.T) {
	next := chance(7)
	for n := range 20000 {
		b := []byte(told(several(1 + n%4)))
		b[next(len(b))] = byte(next(256))
		s := string(b[:len(b)-next(2)*next(len(b))])
		takesJustLaid(t, s)
	}
}

func takesJustLaid(t *testing.T, s string) {
	t.Helper()
	if !laid(s, 64) {
		refusedTake(t, "that is not laid", s)
		return
	}
	l, e := Take(s)
	if e != api.OK || told(l) != s {
		t.Errorf("%.40q: %d fields, error %d", s, len(l), e)
	}
}

// F2: n and 1, by as few bytes as can be, the lowest first.
func TestNumbers(t *testing.T) {
	for _, c := range []struct {
		n    int
		text string
	}{
		{-1, ""}, {0, "\x01"}, {1, "\x02"}, {6, "\x07"}, {127, "\x80"}, {253, "\xfe"},
		{254, "\xff"}, {255, "\x00\x01"}, {256, "\x01\x01"}, {257, "\x02\x01"},
		{1<<16 - 2, "\xff\xff"}, {1<<16 - 1, "\x00\x00\x01"}, {1 << 16, "\x01\x00\x01"},
		{0x123455, "\x56\x34\x12"},
		{1<<24 - 2, "\xff\xff\xff"}, {1<<24 - 1, "\x00\x00\x00\x01"},
		{1<<31 - 1, "\x00\x00\x00\x80"}, {1 << 31, "\x01\x00\x00\x80"},
		{1<<32 - 2, "\xff\xff\xff\xff"}, {1<<32 - 1, "\x00\x00\x00\x00\x01"}, {1 << 32, "\x01\x00\x00\x00\x01"},
		{1<<40 - 2, "\xff\xff\xff\xff\xff"}, {1<<40 - 1, "\x00\x00\x00\x00\x00\x01"}, {1 << 40, "\x01\x00\x00\x00\x00\x01"},
	} {
		s, e := Num(c.n)
		wantText(t, "Num", s, e, c.text)
		n, e := Get(c.text)
		if n != c.n || e != api.OK {
			t.Errorf("Get of %q: %d %d, not %d", c.text, n, e, c.n)
		}
	}
}

func TestNumBeyond(t *testing.T) {
	for _, n := range []int{-2, -3, -255, -256, -257, -1 << 40, math.MinInt, math.MinInt + 1, most + 1, most + 2, most + 255, 1 << 41, 1<<48 - 2, 1<<48 - 1, 1 << 56, math.MaxInt, math.MaxInt - 1} {
		refusedNum(t, n)
	}
}

func TestGetNoNumber(t *testing.T) {
	for _, s := range []string{
		"\x00", "\x00\x00", "\x01\x00", "\x00\x01\x00", "\xff\x00", "\x01\x00\x00\x00\x00\x00", // noughts at the end
		"\x02\x00\x00\x00\x00\x01", "\x00\x01\x00\x00\x00\x01", "\x00\x00\x00\x00\x01\x01", "\x01\x00\x00\x00\x00\x02", "\xff\xff\xff\xff\xff\xff", // beyond 2^40
		"\x00\x00\x00\x00\x00\x00\x01", "\x01\x00\x00\x00\x00\x01\x00", "\x01\x00\x00\x00\x00\x00\x00\x01", // too long
		"\xff\xff\xff\xff\xff\xff\xff\x7f", "\xff\xff\xff\xff\xff\xff\xff\xff", "\x00\x00\x00\x00\x00\x00\x00\x80", // no int
		"\x05\x00\x00\x00\x00\x00\x00\x00\x01", "\x00\x00\x00\x00\x00\x00\x00\x00\x01", strings.Repeat("\x01", 9), // none of which may be lost
		"\x01\x00\x00\x00\x00\x01" + strings.Repeat("\x00", 58) + "\x01", some(400) + "\x01", strings.Repeat("\xff", 100000), strings.Repeat("\x00", 100000),
	} {
		refusedGet(t, s)
	}
}

// F2: all texts of up to two bytes: each is a number's, but for those that end with a nought.
func TestGetShortTexts(t *testing.T) {
	for n := range 1 << 16 {
		low, high := byte(n), byte(n>>8)
		s := string([]byte{low, high})
		if high == 0 {
			refusedGet(t, s)
			s = s[:1]
		}
		if n == 0 {
			refusedGet(t, s)
			s = ""
		}
		got, e := Get(s)
		if got != n-1 || e != api.OK {
			t.Fatalf("%q: %d %d, not %d", s, got, e, n-1)
		}
	}
}

// F3: Take undoes Lay, and Lay Take.
func TestTakeUndoesLay(t *testing.T) {
	for n := range 65 {
		l := several(n)
		s, e := Lay(l)
		if e != api.OK {
			t.Fatal(n, e)
		}
		back, e := Take(s)
		wantFields(t, "Take of Lay", back, e, l)
		again, e := Lay(back)
		wantText(t, "Lay of Take", again, e, s)
	}
}

// F3: unlike lists of fields are laid unlike.
func TestUnlikeFields(t *testing.T) {
	fields := []api.Field{{Tag: 1}, {Tag: 2}, {Tag: 1, Text: "\x01"}, {Tag: 1, Text: "\x00"}, {Tag: 1, Text: "\x01\x00\x00"}, {Tag: 3, Text: "\x02\x00\x00\x01"}}
	lists := [][]api.Field{nil}
	for from, n := 0, 0; n < 4; n++ {
		to := len(lists)
		for _, l := range lists[from:to] {
			for _, f := range fields {
				lists = append(lists, append(slices.Clone(l), f))
			}
		}
		from = to
	}
	seen := map[string]int{}
	for i, l := range lists {
		s, e := Lay(l)
		if other, ok := seen[s]; ok || e != api.OK {
			t.Fatalf("%v, then %v: both %q (%d)", lists[other], l, s, e)
		}
		seen[s] = i
	}
}

// F3: cut behind any number of fields, the beginning is Lay of these.
func TestBeginnings(t *testing.T) {
	l := several(64)
	all, _ := Lay(l)
	for n := range len(l) + 1 {
		s, e := Lay(l[:n])
		if e != api.OK || !strings.HasPrefix(all, s) {
			t.Fatalf("%d fields: no beginning", n)
		}
		back, e := Take(all[:len(s)])
		wantFields(t, "a beginning", back, e, l[:n])
	}
}

// F3: Get undoes Num, and Num Get; greater numbers have no shorter texts.
func TestGetUndoesNum(t *testing.T) {
	size := 0
	for _, n := range rising() {
		s, e := Num(n)
		if e != api.OK || len(s) < size || strings.HasSuffix(s, "\x00") {
			t.Fatalf("%d: %q %d, behind one of %d bytes", n, s, e, size)
		}
		size = len(s)
		back, e := Get(s)
		if back != n || e != api.OK {
			t.Fatalf("%d: %q, back: %d %d", n, s, back, e)
		}
	}
}

// rising are numbers that have a text: all small ones, then such as look like chance, and those near a power of two.
func rising() []int {
	l := []int{most}
	for n := -1; n < 70000; n++ {
		l = append(l, n)
	}
	next := chance(3)
	for bits := 17; bits <= 40; bits++ {
		for off := -300; off < 0; off++ {
			l = append(l, 1<<bits+off, next(1<<17)<<(bits-17))
		}
		l = append(l, min(1<<bits+1, most))
	}
	slices.Sort(l)
	return slices.Compact(l)
}

func TestNumUndoesGet(t *testing.T) {
	next := chance(5)
	for range 100000 {
		b := make([]byte, next(8))
		for i := range b {
			b[i] = byte(next(256) * next(2))
		}
		text := string(b)
		if !numbers(text) {
			refusedGet(t, text)
			continue
		}
		n, e := Get(text)
		if e != api.OK {
			t.Fatalf("%q: %d", text, e)
		}
		s, e := Num(n)
		wantText(t, "Num of Get", s, e, text)
	}
}

// numbers tells whether s is some number's text: of six bytes there are but two, those of 2^40 - 1 and of 2^40.
func numbers(s string) bool {
	if len(s) >= 6 {
		return s == "\x00\x00\x00\x00\x00\x01" || s == "\x01\x00\x00\x00\x00\x01"
	}
	return s == "" || s[len(s)-1] != 0
}

// R3: what is handed in stays as it is, and so does what stands behind its length.
func TestListsStay(t *testing.T) {
	room := several(70)
	room[40].Tag = 0
	kept := slices.Clone(room)
	for n := range len(room) + 1 {
		Lay(room[:n])
		if !slices.Equal(room, kept) {
			t.Fatalf("behind a list of %d: changed", n)
		}
	}
}

// R3: what comes out is its owner's: to write into, and to grow.
func TestAnswersAreNew(t *testing.T) {
	l := several(9)
	s, _ := Lay(l)
	one, _ := Take(s)
	two, _ := Take(s)
	l[0] = api.Field{Tag: 99, Text: "another one"}
	clear(one[:cap(one)])
	one = append(one[:3], l...)
	three, e := Take(s)
	wantFields(t, "an elder answer", two, api.OK, several(9))
	wantFields(t, "a later answer", three, e, several(9))
	wantText(t, "the bytes", s, api.OK, told(several(9)))
	if len(one) != 12 {
		t.Error("grown:", len(one))
	}
}

// R3: the fields' texts are no pieces of what came in.
func TestTextsAreNew(t *testing.T) {
	s := told([]api.Field{{Tag: 1, Text: "abc"}, {Tag: 2, Text: some(400)}})
	first := uintptr(unsafe.Pointer(unsafe.StringData(s)))
	l, _ := Take(s)
	for _, f := range l {
		at := uintptr(unsafe.Pointer(unsafe.StringData(f.Text)))
		if at >= first && at < first+uintptr(len(s)) {
			t.Errorf("tag %d: a piece of what came in", f.Tag)
		}
	}
}

// R4: what was asked ahead of it changes no answer.
func TestNothingIsKept(t *testing.T) {
	for n := range 70 {
		Lay(several(n))
		Take(told(several(n)))
		Take("\x01")
		Num(n - 5)
		Get(some(n))
		both(t, "again", []api.Field{{Tag: 7, Text: "ab"}}, "\x07\x02\x00ab")
		s, e := Num(most)
		wantText(t, "Num again", s, e, "\x01\x00\x00\x00\x00\x01")
		back, e := Get(s)
		if back != most || e != api.OK {
			t.Fatal("Get again:", back, e)
		}
	}
}
