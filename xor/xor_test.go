package xor

import (
	"slices"
	"strings"
	"testing"

	"windlass/api"
)

// every is all 256 bytes, from n on.
func every(n int) string {
	b := make([]byte, 256)
	for i := range b {
		b[i] = byte(i + n)
	}
	return string(b)
}

// some are n texts of size bytes that look like chance, but are the same in each run.
func some(n, size int) []string {
	state := uint32(n*1000 + size + 1)
	l := make([]string, n)
	for i := range l {
		b := make([]byte, size)
		for j := range b {
			state = state*1664525 + 1013904223
			b[j] = byte(state >> 24)
		}
		l[i] = string(b)
	}
	return l
}

func want(t *testing.T, name, got string, e api.Errno, text string) {
	t.Helper()
	if got != text || e != api.OK {
		t.Errorf("%s: %q %d, not %q", name, got, e, text)
	}
}

func refused(t *testing.T, name, got string, e api.Errno) {
	t.Helper()
	if got != "" || e != api.ErrXorLong {
		t.Errorf("%s: %q %d, not ErrXorLong", name, got, e)
	}
}

// X1: the bits that just one of two texts has.
func TestTwo(t *testing.T) {
	for _, c := range []struct{ a, b, text string }{
		{"", "", ""},
		{"ab", "b ", "\x03\x42"},
		{"\x0f", "\xff", "\xf0"},
		{"\x00\x00", "xy", "xy"},
		{"\xff\xfe\x80", "\xff\xfe\x80", "\x00\x00\x00"},
		{"\xc3\xa9", "\xe2\x82", "\x21\x2b"},
	} {
		s, e := Two(c.a, c.b)
		want(t, "Two", s, e, c.text)
	}
}

func TestTwoOfEveryByte(t *testing.T) {
	for n := range 256 {
		a, b := every(0), every(n)
		s, e := Two(a, b)
		if e != api.OK || len(s) != 256 {
			t.Fatalf("%d: %d, %d bytes", n, e, len(s))
		}
		for i := range len(s) {
			if s[i] != a[i]^b[i] {
				t.Fatalf("%d and %d: %d", a[i], b[i], s[i])
			}
		}
	}
}

func TestTwoLong(t *testing.T) {
	for _, c := range [][2]string{{"", "a"}, {"a", ""}, {"a", "ab"}, {"ab", "a"}, {"a", "a\x00"}, {"é", "e"}} {
		s, e := Two(c[0], c[1])
		refused(t, "Two", s, e)
	}
}

// X1: All is Two of all texts, one behind the other.
func TestAll(t *testing.T) {
	for _, c := range []struct {
		l    []string
		text string
	}{
		{[]string{"a", "b", "c"}, "\x60"},
		{[]string{"only"}, "only"},
		{[]string{""}, ""},
		{[]string{"", "", ""}, ""},
		{[]string{"ab", "b "}, "\x03\x42"},
		{[]string{"\xff", "\xff", "\xff"}, "\xff"},
		{[]string{"\x01", "\x02", "\x04", "\x08", "\x10", "\x20", "\x40", "\x80"}, "\xff"},
	} {
		s, e := All(c.l)
		want(t, "All", s, e, c.text)
	}
}

func TestAllIsTwoAgainAndAgain(t *testing.T) {
	for n := 1; n <= 9; n++ {
		l := some(n, 16)
		text := l[0]
		for _, s := range l[1:] {
			text, _ = Two(text, s)
		}
		s, e := All(l)
		want(t, "All", s, e, text)
	}
}

func TestAllLong(t *testing.T) {
	for _, l := range [][]string{
		nil, {}, {"a", ""}, {"", "a"}, {"a", "b", ""}, {"a", "b", "cc"}, {"aa", "b", "c"}, {"a", "bb", "c"}, {"", "", "a"},
	} {
		s, e := All(l)
		refused(t, "All", s, e)
	}
}

// X2: Moved takes one text away, and puts another one in its place.
func TestMoved(t *testing.T) {
	for _, c := range []struct{ all, old, now, text string }{
		{"\x60", "b", "z", "\x78"},
		{"", "", "", ""},
		{"abc", "abc", "xyz", "xyz"},
		{"abc", "xyz", "xyz", "abc"},
		{"\x00\xff", "\x00\x00", "\x0f\x0f", "\x0f\xf0"},
	} {
		s, e := Moved(c.all, c.old, c.now)
		want(t, "Moved", s, e, c.text)
	}
}

func TestMovedLong(t *testing.T) {
	for _, c := range [][3]string{
		{"a", "b", "cc"}, {"a", "bb", "c"}, {"aa", "b", "c"}, {"a", "b", ""}, {"", "b", "c"},
		{"aa", "bb", "c"}, {"aa", "b", "cc"}, {"a", "bb", "cc"}, {"", "", "c"},
	} {
		s, e := Moved(c[0], c[1], c[2])
		refused(t, "Moved", s, e)
	}
}

// X2: Missing is All of all and the rest.
func TestMissing(t *testing.T) {
	for _, c := range []struct {
		all  string
		rest []string
		text string
	}{
		{"\x60", []string{"a", "c"}, "b"},
		{"x", nil, "x"},
		{"", nil, ""},
		{"x", []string{}, "x"},
		{"", []string{"", ""}, ""},
		{"ab", []string{"ab"}, "\x00\x00"},
	} {
		s, e := Missing(c.all, c.rest)
		want(t, "Missing", s, e, c.text)
	}
}

func TestMissingLong(t *testing.T) {
	for _, c := range []struct {
		all  string
		rest []string
	}{
		{"", []string{"a"}},
		{"a", []string{""}},
		{"a", []string{"b", "cc"}},
		{"a", []string{"bb", "c"}},
		{"aa", []string{"b", "c"}},
		{"aa", []string{"bb", "cc", "d"}},
	} {
		s, e := Missing(c.all, c.rest)
		refused(t, "Missing", s, e)
	}
}

// X3: neither the order of texts matters, nor a text that stands twice.
func TestOrderAndTwice(t *testing.T) {
	for n := 1; n <= 6; n++ {
		l := some(n, 16)
		all, _ := All(l)
		for turn := range n {
			s, e := All(append(slices.Clone(l[turn:]), l[:turn]...))
			want(t, "turned", s, e, all)
		}
		back := slices.Clone(l)
		slices.Reverse(back)
		s, e := All(back)
		want(t, "reversed", s, e, all)
		twice := every(n)[:16]
		s, e = All(append(append([]string{twice}, l...), twice))
		want(t, "twice", s, e, all)
	}
}

// X3: texts and their parity are nought, and any one is told by the others.
func TestParity(t *testing.T) {
	for n := 1; n <= 6; n++ {
		l := some(n, 16)
		parity, _ := All(l)
		s, e := All(append(slices.Clone(l), parity))
		want(t, "with parity", s, e, strings.Repeat("\x00", 16))
		for i := range l {
			s, e := Missing(parity, slices.Delete(slices.Clone(l), i, i+1))
			want(t, "missing", s, e, l[i])
		}
	}
}

// X3: the parity moves along with one of its texts.
func TestParityMoves(t *testing.T) {
	for n := 1; n <= 6; n++ {
		l := some(n, 16)
		parity, _ := All(l)
		for i := range l {
			other := slices.Clone(l)
			other[i] = every(17 * i)[:16]
			text, _ := All(other)
			s, e := Moved(parity, l[i], other[i])
			want(t, "moved", s, e, text)
		}
	}
}

// What is handed in stays as it is, and so does what stands behind its length.
func TestListsStay(t *testing.T) {
	room := []string{"a", "b", "c", "d", "e"}
	kept := slices.Clone(room)
	for n := range len(room) {
		All(room[:n])
		Missing("x", room[:n])
		Missing("too long", room[:n])
		if !slices.Equal(room, kept) {
			t.Fatalf("behind lists of %d: %q", n, room)
		}
	}
}

// An answer hangs on nothing that is changed later on.
func TestAnswersStay(t *testing.T) {
	l := []string{"a", "b"}
	all, _ := All(l)
	alone, _ := All(l[:1])
	missing, _ := Missing("a", l[1:])
	l[0], l[1] = "x", "y"
	All(l)
	Missing("z", l)
	if all != "\x03" || alone != "a" || missing != "\x03" {
		t.Errorf("%q %q %q", all, alone, missing)
	}
}
