package crc

import (
	"math"
	"strings"
	"testing"
)

// divided is Go of a sum that needs no remainder, told another way: the text's bits are divided at length, and what is left is the sum.
func divided(sum int, s string) int {
	bits := make([]int, 8*len(s)+24)
	for i := range 8 * len(s) {
		bits[i] = int(s[i/8]>>(7-i%8)) & 1
	}
	for i := range 24 {
		bits[i] ^= sum >> (23 - i) & 1
	}
	for i := range 8 * len(s) {
		if bits[i] == 0 {
			continue
		}
		for j := range 25 {
			bits[i+j] ^= 0x1864CFB >> (24 - j) & 1
		}
	}
	left := 0
	for _, bit := range bits[8*len(s):] {
		left = 2*left + bit
	}
	return left
}

// chance answers numbers that look like chance, but are the same in each run.
func chance(state uint64) func() int {
	return func() int {
		state = state*6364136223846793005 + 1442695040888963407
		return int(state >> 33)
	}
}

// some is a text of size bytes that looks like chance.
func some(size int) string {
	next := chance(uint64(size))
	b := make([]byte, size)
	for i := range b {
		b[i] = byte(next())
	}
	return string(b)
}

// every is all 256 bytes.
func every() string {
	b := make([]byte, 256)
	for i := range b {
		b[i] = byte(i)
	}
	return string(b)
}

// by3 is a sum by three bytes, the highest first.
func by3(sum int) string {
	return string([]byte{byte(sum >> 16), byte(sum >> 8), byte(sum)})
}

// turned is s, with those bits turned that run has set, from bit at on.
func turned(s string, at, run int) string {
	b := []byte(s)
	for i := range 24 {
		if run>>(23-i)&1 == 1 {
			b[(at+i)/8] ^= 0x80 >> ((at + i) % 8)
		}
	}
	return string(b)
}

func want(t *testing.T, name string, got, sum int) {
	t.Helper()
	if got != sum {
		t.Errorf("%s: %#x, not %#x", name, got, sum)
	}
}

// C1: the chapter's examples, and the frame of nothing, whose sum another chapter tells.
func TestExamples(t *testing.T) {
	want(t, "nothing", Sum(""), 0xB704CE)
	want(t, "123456789", Sum("123456789"), 0x21CF02)
	want(t, "a frame", Sum("WL\x00\x00"), 0xEDEA19)
}

// C1: steps that can be told by hand, at the edges of what is too great.
func TestStepByHand(t *testing.T) {
	want(t, "no byte", Go(0x123456, ""), 0x123456)
	want(t, "a byte of noughts", Go(0, "\x00"), 0)
	want(t, "a sum that stays small", Go(1, "\x00"), 0x100)
	want(t, "the greatest that stays small", Go(0xFFFF, "\x00"), 0xFFFF00)
	want(t, "just 2^24, at the last doubling", Go(0x10000, "\x00"), 0x864CFB)
	want(t, "a byte stands at 2^16", Go(0, "\x01"), 0x864CFB)
	want(t, "both are put together", Go(0x010000, "\x01"), 0)
	want(t, "put together, not added", Go(0xFF0000, "\xff"), 0)
	want(t, "nothing but the highest bit of both", Go(0x800000, "\x80"), 0)
	want(t, "every bit", Go(0xFFFFFF, "\xff"), 0xFFFF00)
}

func TestEveryByte(t *testing.T) {
	for _, sum := range []int{0, 1, 0x800000, 0xB704CE, 0xFFFFFF} {
		for n := range 256 {
			s := string([]byte{byte(n)})
			want(t, "a byte", Go(sum, s), divided(sum, s))
		}
	}
}

func TestTexts(t *testing.T) {
	for _, s := range []string{"a", "ab", "ba", "abc", "\x00", "\x00\x00", "\xff\xfe", "é", "\xc3", "\xe2\x82", "a\x00", "\x00a"} {
		want(t, s, Go(0x123456, s), divided(0x123456, s))
	}
	for size := range 65 {
		s := some(size)
		want(t, "Go", Go(0, s), divided(0, s))
		want(t, "Sum", Sum(s), divided(0xB704CE, s))
	}
	long := some(100000)
	want(t, "a long text", Sum(long), divided(0xB704CE, long))
}

// C1: Sum begins with a number of its own.
func TestSumIsGo(t *testing.T) {
	for size := range 65 {
		s := some(size)
		want(t, "Sum", Sum(s), Go(0xB704CE, s))
	}
}

func TestSumTellsNoughts(t *testing.T) {
	seen := map[int]int{}
	for n := range 1000 {
		sum := Sum(strings.Repeat("\x00", n))
		if other, ok := seen[sum]; ok {
			t.Fatalf("%d and %d noughts: %#x", other, n, sum)
		}
		seen[sum] = n
	}
}

// Words: a sum is a number from 0 to 2^24 - 1.
func TestSumsStayInRange(t *testing.T) {
	next := chance(24)
	for size := range 500 {
		s := some(size)
		for _, sum := range []int{Sum(s), Go(next(), s), Go(-next(), s)} {
			if sum < 0 || sum >= 1<<24 {
				t.Fatalf("%d bytes: %#x", size, sum)
			}
		}
	}
}

// Words: one that comes in is taken as the remainder by 2^24, from 0 on.
func TestSumThatComesIn(t *testing.T) {
	for _, c := range []struct{ in, sum int }{
		{0, 0},
		{1<<24 - 1, 0xFFFFFF},
		{1 << 24, 0},
		{1<<24 + 1, 1},
		{1<<25 - 1, 0xFFFFFF},
		{1 << 25, 0},
		{1<<24 + 0xB704CE, 0xB704CE},
		{1<<40 + 7, 7},
		{-1, 0xFFFFFF},
		{-2, 0xFFFFFE},
		{-1 << 24, 0},
		{-1<<24 - 1, 0xFFFFFF},
		{-1<<24 + 1, 1},
		{-1 << 23, 0x800000},
		{0xB704CE - 1<<24, 0xB704CE},
		{math.MaxInt, 0xFFFFFF},
		{math.MaxInt - 1, 0xFFFFFE},
		{math.MinInt, 0},
		{math.MinInt + 1, 1},
	} {
		want(t, "with nothing", Go(c.in, ""), c.sum)
		for _, s := range []string{"\x00", "a", "123456789", some(40)} {
			want(t, "with a text", Go(c.in, s), divided(c.sum, s))
		}
	}
}

// C2: two texts, one behind the other, wherever they are parted.
func TestOneBehindTheOther(t *testing.T) {
	s := some(70)
	for _, sum := range []int{0, 1, 0xB704CE, 0xFFFFFF, -1, 1<<24 + 5} {
		all := Go(sum, s)
		for at := range len(s) + 1 {
			want(t, "parted", Go(Go(sum, s[:at]), s[at:]), all)
		}
		byBytes := sum
		for at := range len(s) {
			byBytes = Go(byBytes, s[at:at+1])
		}
		want(t, "byte by byte", byBytes, all)
	}
	want(t, "Sum, then Go", Go(Sum("12345"), "6789"), Sum("123456789"))
}

// C2: all texts of three bytes differ only within a run of 24 bits, so no two have one sum.
func TestAllOfThreeBytes(t *testing.T) {
	seen := make([]bool, 1<<24)
	last := every()
	for n := range 1 << 16 {
		two := Go(0xB704CE, by3(n)[1:])
		for i := range len(last) {
			sum := Go(two, last[i:i+1])
			if seen[sum] {
				t.Fatalf("%#x, then %#x: the sum %#x was another one's", n, last[i], sum)
			}
			seen[sum] = true
		}
	}
}

// C2: runs that begin and end within bytes, at each place of a text.
func TestRuns(t *testing.T) {
	s := some(20)
	sum := Sum(s)
	next := chance(1)
	for at := range 8*len(s) - 23 {
		for bit := range 24 {
			differ(t, s, at, 1<<bit, sum)
			differ(t, s, at, 1<<(bit+1)-1, sum)
			differ(t, s, at, 1<<23|1<<bit, sum)
		}
		for range 200 {
			differ(t, s, at, 1+next()%(1<<24-1), sum)
		}
	}
}

func differ(t *testing.T, s string, at, run, sum int) {
	t.Helper()
	if Sum(turned(s, at, run)) == sum {
		t.Fatalf("from bit %d: %#x: still %#x", at, run, sum)
	}
}

// C2 speaks of 24 bits: of the runs of 25 there is one that no sum of C1 can see.
func TestRunOf25(t *testing.T) {
	for _, s := range []string{"abcd", "\x00\x00\x00\x00", "\xff\xff\xff\xff"} {
		other := []byte(s)
		for i, b := range []byte{0x01, 0x86, 0x4C, 0xFB} {
			other[i] ^= b
		}
		want(t, "a run of 25", Sum(string(other)), Sum(s))
	}
}

// C2: with its Sum behind it a text has the Sum 0; with any other three bytes it has not.
func TestWithItsSum(t *testing.T) {
	for _, s := range []string{"", "a", "\x00", "\x00\x00\x00", "123456789", "\xff\xff", "é"} {
		want(t, s, Sum(s+by3(Sum(s))), 0)
	}
	for size := range 300 {
		s := some(size)
		want(t, "with its sum", Sum(s+by3(Sum(s))), 0)
	}
	want(t, "the frame of nothing", Sum("WL\x00\x00\xed\xea\x19"), 0)
	for bit := range 24 {
		if Sum("abc"+by3(Sum("abc")^1<<bit)) == 0 {
			t.Errorf("with another sum, bit %d: 0", bit)
		}
	}
}

// R4: what was summed ahead of it changes no answer.
func TestNothingIsKept(t *testing.T) {
	sum, on := Sum("abc"), Go(5, "abc")
	for size := range 20 {
		Sum(some(size))
		Go(-size, some(size))
		want(t, "Sum", Sum("abc"), sum)
		want(t, "Go", Go(5, "abc"), on)
	}
}
