package frame

import (
	"strings"
	"testing"
	"unsafe"

	"windlass/api"
)

// longest is how many bytes a frame bears at the most, around is how many a frame has beside these.
const (
	longest = 800
	around  = 7
)

// chance answers numbers from 0 on, below n, that look like chance, but are the same in each run.
func chance(state uint64) func(n int) int {
	return func(n int) int {
		state = state*6364136223846793005 + 1442695040888963407
		return int(state>>33) % n
	}
}

// some is a text of size bytes that look like chance.
func some(size int) string {
	next := chance(uint64(size))
	b := make([]byte, size)
	for i := range b {
		b[i] = byte(next(256))
	}
	return string(b)
}

// divided is layer 2's Sum, told another way: byte by byte, with what is too great taken off from above.
func divided(s string) int {
	n := 0xB704CE
	for _, b := range []byte(s) {
		n = (n ^ int(b)<<16) << 8
		for bit := 31; bit >= 24; bit-- {
			if n>>bit&1 == 1 {
				n ^= 0x1864CFB << (bit - 24)
			}
		}
	}
	return n
}

// summed is s with its right sum behind it, whatever s is.
func summed(s string) string {
	n := divided(s)
	return s + string([]byte{byte(n / 65536), byte(n / 256 % 256), byte(n % 256)})
}

// headed is a frame of those two bytes, that length, that payload, and a right sum: wrong in nothing but what it is given.
func headed(one, two byte, size int, payload string) string {
	return summed(string([]byte{one, two, byte(size % 256), byte(size / 256 % 256)}) + payload)
}

// told is Lay of a right payload, told another way.
func told(payload string) string {
	return headed(87, 76, len(payload), payload)
}

// turned is s, with those bits turned that run has set, from bit at on; nothing of run may lie behind s.
func turned(s string, at, run int) string {
	b := []byte(s)
	for i := range 24 {
		if run>>(23-i)&1 == 1 {
			b[(at+i)/8] ^= 0x80 >> ((at + i) % 8)
		}
	}
	return string(b)
}

func wantText(t *testing.T, name, got string, e api.Errno, text string) {
	t.Helper()
	if got != text || e != api.OK {
		t.Fatalf("%s: %.40q (%d bytes) %d, not %.40q (%d bytes)", name, got, len(got), e, text, len(text))
	}
}

func refusedLay(t *testing.T, name, payload string) {
	t.Helper()
	if s, e := Lay(payload); s != "" || e != api.ErrFrameForm {
		t.Fatalf("Lay, %s: %.40q %d, not ErrFrameForm", name, s, e)
	}
}

func refusedOpen(t *testing.T, name, s string) {
	t.Helper()
	if p, e := Open(s); p != "" || e != api.ErrFrameForm {
		t.Fatalf("Open, %s: %.40q: %.40q %d, not ErrFrameForm", name, s, p, e)
	}
}

// both wants s to be Lay of payload, and payload to be Open of s.
func both(t *testing.T, name, payload, s string) {
	t.Helper()
	got, e := Lay(payload)
	wantText(t, "Lay, "+name, got, e, s)
	got, e = Open(s)
	wantText(t, "Open, "+name, got, e, payload)
}

// G1: the chapter's example, and frames whose sums were reckoned elsewhere.
func TestExamples(t *testing.T) {
	both(t, "nothing", "", string([]byte{87, 76, 0, 0, 237, 234, 25}))
	both(t, "a letter", "a", "WL\x01\x00a\x68\x30\xab")
	both(t, "a nought", "\x00", "WL\x01\x00\x00\xfb\x0e\x6b")
	both(t, "digits", "123456789", "WL\x09\x00123456789\x46\x55\xe7")
	both(t, "a frame in a frame", "WL\x00\x00\xed\xea\x19", "WL\x07\x00WL\x00\x00\xed\xea\x19\x37\xb8\x18")
	both(t, "255 bytes", strings.Repeat("x", 255), "WL\xff\x00"+strings.Repeat("x", 255)+"\xda\xc2\x09")
	both(t, "256 bytes", strings.Repeat("x", 256), "WL\x00\x01"+strings.Repeat("x", 256)+"\x6b\xc0\x66")
	both(t, "the longest", strings.Repeat("x", 800), "WL\x20\x03"+strings.Repeat("x", 800)+"\x55\xe5\x9a")
}

// G1: payloads of each length that may be borne; G2: Open undoes Lay, and Lay Open.
func TestEachLength(t *testing.T) {
	for size := range longest + 1 {
		for _, payload := range []string{some(size), strings.Repeat("\x00", size), strings.Repeat("\xff", size)} {
			s := told(payload)
			if len(s) != size+around {
				t.Fatalf("%d bytes: a frame of %d", size, len(s))
			}
			both(t, "each length", payload, s)
		}
	}
}

func TestEveryByte(t *testing.T) {
	for n := range 1 << 16 {
		payload := string([]byte{byte(n), byte(n >> 8)})
		both(t, "two bytes", payload, told(payload))
		if n < 256 {
			both(t, "a byte", payload[:1], told(payload[:1]))
		}
	}
}

// G1: texts are bytes, runes or not.
func TestTexts(t *testing.T) {
	for _, payload := range []string{"é", "\xc3", "\xa9", "\xe2\x82", "\u2028", "a\x00", "\x00a", "\x00\x00\x00", "WL", "LW", "\r\n", "\xff\xfe", "\xef\xbb\xbf"} {
		both(t, payload, payload, told(payload))
	}
}

func TestLayTooLong(t *testing.T) {
	for _, size := range []int{801, 802, 807, 808, 1000, 1023, 1024, 32768, 65535, 65536, 65537, 65536 + 800, 1 << 20} {
		refusedLay(t, "too long", some(size))
		refusedLay(t, "too many noughts", strings.Repeat("\x00", size))
	}
}

// G1: no frame has fewer than 7 bytes, none more than 807.
func TestOpenShortest(t *testing.T) {
	frame := told("")
	if len(frame) != around {
		t.Fatal(len(frame))
	}
	for at := range frame {
		refusedOpen(t, "shorter than the shortest", frame[:at])
		refusedOpen(t, "shorter, cut ahead", frame[at+1:])
		refusedOpen(t, "with its sum, and shorter", summed(frame[:min(at, 3)]))
		refusedOpen(t, "noughts", strings.Repeat("\x00", at))
	}
	refusedOpen(t, "7 noughts", strings.Repeat("\x00", 7))
	refusedOpen(t, "a head alone", "WL\x00\x00")
	refusedOpen(t, "a head, and a sum of no bytes", "WL\x00\x00\xb7\x04\xce")
	refusedOpen(t, "a sum alone", "\xb7\x04\xce")
}

func TestOpenLongest(t *testing.T) {
	both(t, "the longest", some(800), told(some(800)))
	for _, size := range []int{801, 802, 807, 1023, 1024, 65535, 65536, 65537, 65536 + 5, 65536 + 800, 1 << 20} {
		// The length is told by two bytes alone: of more it tells the remainder.
		refusedOpen(t, "longer than the longest", told(some(size)))
		refusedOpen(t, "noughts that are too many", told(strings.Repeat("\x00", size)))
	}
}

func TestOpenCut(t *testing.T) {
	for _, size := range []int{0, 1, 2, 3, 7, 100, 255, 256, 257, 800} {
		frame := told(some(size))
		for at := range frame {
			refusedOpen(t, "cut at its end", frame[:at])
			refusedOpen(t, "cut at its beginning", frame[at+1:])
			refusedOpen(t, "a byte out", frame[:at]+frame[at+1:])
			if at != len(frame)-3 { // there nothing but the sum is cut
				refusedOpen(t, "cut, and summed again", summed(frame[:at]))
			}
		}
	}
}

func TestOpenSomethingBehind(t *testing.T) {
	for _, size := range []int{0, 1, 2, 7, 255, 256, 793, 799, 800} {
		frame := told(some(size))
		for _, more := range []string{"\x00", "\x00\x00\x00", "\xff", " ", "\n", "W", "WL\x00\x00\xed\xea\x19", frame, frame[:1], frame[len(frame)-3:], some(size + 1)} {
			refusedOpen(t, "with something behind", frame+more)
			refusedOpen(t, "with something behind, summed again", summed(frame+more))
			refusedOpen(t, "with something behind ahead of a new sum", summed(frame[:len(frame)-3]+more))
			refusedOpen(t, "with something ahead", more+frame)
		}
		for n := range 256 {
			refusedOpen(t, "with a byte behind", frame+string([]byte{byte(n)}))
		}
	}
}

// G1: any two bytes ahead but 87 and 76 make no frame, though the sum is right.
func TestOpenOtherHead(t *testing.T) {
	for n := range 1 << 16 {
		one, two := byte(n), byte(n>>8)
		if one == 87 && two == 76 {
			continue
		}
		refusedOpen(t, "another head", headed(one, two, 2, "ab"))
	}
	for _, size := range []int{0, 1, 256, 800} {
		refusedOpen(t, "turned round", headed(76, 87, size, some(size)))
		refusedOpen(t, "small letters", headed('w', 'l', size, some(size)))
		refusedOpen(t, "the first one else", headed(86, 76, size, some(size)))
		refusedOpen(t, "the second one else", headed(87, 77, size, some(size)))
		refusedOpen(t, "noughts", headed(0, 0, size, some(size)))
	}
}

// G1: any length but its own makes no frame, though the sum is right.
func TestOpenOtherLength(t *testing.T) {
	for _, size := range []int{0, 1, 2, 255, 256, 257, 513, 800} {
		payload := some(size)
		for _, other := range []int{0, 1, 2, 3, 4, 7, 254, 255, 256, 257, 258, 511, 512, 513, 514, 799, 800, 801, 32768, 65535, size - 1, size + 1, size + 3, size + 4, size + 7, size + 256, size % 256 * 256} {
			if other >= 0 && other != size {
				refusedOpen(t, "another length", headed(87, 76, other, payload))
			}
		}
	}
	for other := range 1 << 16 {
		if other != 5 {
			refusedOpen(t, "another length than 5", headed(87, 76, other, "abcde"))
		}
	}
	refusedOpen(t, "the higher one first", headed(87, 76, 256, "a"))
	refusedOpen(t, "the higher one first", headed(87, 76, 1, some(256)))
}

// G1: any three bytes behind but the sum, the highest first, make no frame.
func TestOpenOtherSum(t *testing.T) {
	for _, size := range []int{0, 1, 9, 800} {
		frame := told(some(size))
		end := len(frame) - 3
		n := divided(frame[:end])
		high, middle, low := byte(n>>16), byte(n>>8), byte(n)
		for at := end; at < len(frame); at++ {
			for d := 1; d < 256; d++ {
				b := []byte(frame)
				b[at] += byte(d)
				refusedOpen(t, "another byte of the sum", string(b))
			}
		}
		for _, sum := range [][]byte{{low, middle, high}, {middle, high, low}, {high, low, middle}, {low, high, middle}, {middle, low, high}, {^high, ^middle, ^low}, {0, 0, 0}, {255, 255, 255}, {0xb7, 0x04, 0xce}} {
			if string(sum) != frame[end:] {
				refusedOpen(t, "another sum", frame[:end]+string(sum))
			}
		}
		refusedOpen(t, "the sum of the payload alone", frame[:end]+summed(some(size))[size:])
		refusedOpen(t, "the sum of what is behind the two bytes", frame[:end]+summed(frame[2:end])[end-2:])
		refusedOpen(t, "no sum", frame[:end])
		refusedOpen(t, "two sums", frame+frame[end:])
	}
}

// G1: just what is Lay of some payload is opened, and as that one.
func TestOpenChance(t *testing.T) {
	next := chance(4)
	for n := range 20000 {
		b := []byte(told(some(next(30))))
		for range next(4) {
			b[next(len(b))] = byte(next(256))
		}
		s := string(b)
		if n%3 == 0 {
			s = summed(s[:len(s)-3])
		}
		opensJustLaid(t, s)
	}
}

func TestOpenShortTexts(t *testing.T) {
	for _, size := range []int{0, 1, 2, 3, 256} {
		for n := range 1 << 12 {
			opensJustLaid(t, headed(byte(80+n%8), byte(72+n/8%8), n/64%4, some(size)))
		}
	}
}

func opensJustLaid(t *testing.T, s string) {
	t.Helper()
	if len(s) >= around && len(s) <= longest+around {
		payload := s[4 : len(s)-3]
		if told(payload) == s {
			both(t, "that is laid", payload, s)
			return
		}
	}
	refusedOpen(t, "that is not laid", s)
}

// G2: unlike payloads make unlike frames.
func TestUnlike(t *testing.T) {
	seen := map[string]string{}
	look := func(payload string) {
		s, e := Lay(payload)
		other, ok := seen[s]
		if e != api.OK || ok {
			t.Fatalf("%.40q, then %.40q: both %.40q (%d)", other, payload, s, e)
		}
		seen[s] = payload
	}
	look("")
	for n := range 1 << 12 {
		look(some(n % 400)[n%400/2:] + string([]byte{byte(n), byte(n >> 8)}))
	}
	for size := 3; size <= longest; size++ {
		look(strings.Repeat("\x00", size))
		look("WL" + strings.Repeat("\xff", size-2))
	}
}

// G2: of two frames none begins the other.
func TestNoBeginning(t *testing.T) {
	var frames []string
	for size := range 60 {
		for _, payload := range []string{some(size), strings.Repeat("\x00", size+1), told(some(size))} {
			s, _ := Lay(payload)
			frames = append(frames, s)
		}
	}
	for i, a := range frames {
		for j, b := range frames {
			if i != j && strings.HasPrefix(a, b) {
				t.Errorf("%.40q begins %.40q", b, a)
			}
		}
	}
}

// G2: runs that begin and end within bytes, at each place of a frame: its head, its length, its payload, its sum.
func TestRuns(t *testing.T) {
	next := chance(1)
	for _, size := range []int{0, 1, 2, 20, 70} {
		frame := told(some(size))
		for at := range 8*len(frame) - 23 {
			for bit := range 24 {
				refusedOpen(t, "a bit", turned(frame, at, 1<<bit))
				refusedOpen(t, "a run of ones", turned(frame, at, 1<<(bit+1)-1))
				refusedOpen(t, "the first one and another", turned(frame, at, 1<<23|1<<bit))
			}
			for range 50 {
				refusedOpen(t, "a run", turned(frame, at, 1+next(1<<24-1)))
			}
		}
	}
}

func TestRunsOfLongFrames(t *testing.T) {
	next := chance(2)
	for _, size := range []int{255, 256, 800} {
		frame := told(some(size))
		for at := range 8*len(frame) - 23 {
			refusedOpen(t, "the first bit", turned(frame, at, 1<<23))
			refusedOpen(t, "the last bit", turned(frame, at, 1))
			refusedOpen(t, "all", turned(frame, at, 1<<24-1))
			refusedOpen(t, "a run", turned(frame, at, 1+next(1<<24-1)))
		}
	}
}

// G1, beside G2: with a run of 25 turned it can be a frame again, and is opened then.
func TestRunOf25(t *testing.T) {
	payload := some(9)
	other := []byte(payload)
	for i, b := range []byte{0x01, 0x86, 0x4C, 0xFB} {
		other[3+i] ^= b
	}
	frame := told(payload)
	s := frame[:4] + string(other) + frame[len(frame)-3:]
	both(t, "a run of 25", string(other), s)
}

// R3: what comes out is no piece of what came in.
func TestAnswersAreNew(t *testing.T) {
	for _, size := range []int{1, 2, 100, 800} {
		payload := some(size)
		frame, _ := Lay(payload)
		if within(frame, payload) || within(payload, frame) {
			t.Errorf("Lay of %d bytes: shares what came in", size)
		}
		back, _ := Open(frame)
		if within(back, frame) {
			t.Errorf("Open of %d bytes: a piece of what came in", size)
		}
	}
}

// within tells whether s begins in the other one's memory.
func within(s, other string) bool {
	at := uintptr(unsafe.Pointer(unsafe.StringData(s)))
	first := uintptr(unsafe.Pointer(unsafe.StringData(other)))
	return at >= first && at < first+uintptr(len(other))
}

// R4: what was asked ahead of it changes no answer.
func TestNothingIsKept(t *testing.T) {
	for size := range 820 {
		Lay(some(size))
		Open(told(some(size)))
		Open(some(size))
		both(t, "again", "", "WL\x00\x00\xed\xea\x19")
		both(t, "again", "a", "WL\x01\x00a\x68\x30\xab")
		refusedLay(t, "again", some(801))
		refusedOpen(t, "again", "WL\x01\x00a\x68\x30\xaa")
	}
}
