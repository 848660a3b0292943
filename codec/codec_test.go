package codec_test

import (
	"hash/crc32"
	"math"
	"strings"
	"testing"

	"pagemend/api"
	"pagemend/codec"
)

const longest = api.MaxBlob + 200

// numbers are ordinary ones and those at the ends of each length.
func numbers() []int {
	ns := []int{0, 1, -1, 2, -2, 300, -300, math.MaxInt, math.MinInt, 0x0123456789ABCDEF}
	for bits := 7; bits < 64; bits++ {
		ns = append(ns, 1<<bits, 1<<bits-1, 1<<bits+1, -1<<bits, -1<<bits-1, -1<<bits+1)
	}
	return ns
}

// samples are payloads: short ones, one with every byte, and the longest.
func samples() []string {
	every := make([]byte, 256)
	for i := range every {
		every[i] = byte(i)
	}
	return []string{"", "\x00", "a", "ab", "\xff\xff\xff\xff", string(every), strings.Repeat("ab\x00", longest)[:longest]}
}

// wrongSizes are lengths that no number has.
func wrongSizes() []int { return []int{math.MinInt, -8, -1, 0, 9, 10, 64, math.MaxInt} }

// modulo is n modulo 2^(8 size), bit by bit.
func modulo(n, size int) int {
	r := 0
	for bit := range 8 * size {
		if uint(n)>>bit&1 == 1 {
			r += 1 << bit
		}
	}
	return r
}

// P1.1: the bytes of a number, the lowest first.
func TestPutBytes(t *testing.T) {
	for _, c := range []struct {
		s       string
		n, size int
		want    string
	}{
		{"", 0, 1, "\x00"},
		{"", 255, 1, "\xff"},
		{"", 256, 1, "\x00"},
		{"a", 300, 2, "a\x2c\x01"},
		{"", -1, 1, "\xff"},
		{"", -2, 3, "\xfe\xff\xff"},
		{"x", 0x0102030405060708, 7, "x\x08\x07\x06\x05\x04\x03\x02"},
		{"x", 0x0102030405060708, 8, "x\x08\x07\x06\x05\x04\x03\x02\x01"},
		{"", -2, 8, "\xfe\xff\xff\xff\xff\xff\xff\xff"},
		{"", math.MinInt, 8, "\x00\x00\x00\x00\x00\x00\x00\x80"},
		{"", math.MinInt, 7, "\x00\x00\x00\x00\x00\x00\x00"},
	} {
		if got := codec.Put(c.s, c.n, c.size); got != c.want {
			t.Errorf("Put(%q, %d, %d) = %q, want %q", c.s, c.n, c.size, got, c.want)
		}
	}
}

// P1.1: s alone with a size that is not from 1 to 8.
func TestPutWrongSize(t *testing.T) {
	for _, size := range wrongSizes() {
		for _, s := range []string{"", "abc"} {
			if got := codec.Put(s, 5, size); got != s {
				t.Errorf("Put(%q, 5, %d) = %q", s, size, got)
			}
		}
	}
}

// P1.1: unsigned below 8 bytes, in two's complement with 8.
func TestGetNumbers(t *testing.T) {
	const s = "a\xfe\xff\xff\xff\xff\xff\xff\xffb"
	for _, c := range []struct{ at, size, want int }{
		{0, 1, 'a'},
		{9, 1, 'b'},
		{1, 1, 254},
		{1, 2, 65534},
		{1, 4, 1<<32 - 2},
		{1, 7, 1<<56 - 2},
		{1, 8, -2},
		{2, 8, 'b'<<56 | 1<<56 - 1},
		{0, 2, 0xfe61},
	} {
		got, e := codec.Get(s, c.at, c.size)
		if got != c.want || e != api.OK {
			t.Errorf("Get(%d, %d) = %d, %d, want %d", c.at, c.size, got, e, c.want)
		}
	}
}

// P1.1: Get of what Put has appended is n modulo 2^(8 size).
func TestGetOfPut(t *testing.T) {
	for _, n := range numbers() {
		for size := 1; size <= 8; size++ {
			s := codec.Put("xyz", n, size)
			if len(s) != 3+size || s[:3] != "xyz" {
				t.Fatalf("Put(%d, %d) = %q", n, size, s)
			}
			got, e := codec.Get(s+"behind", 3, size)
			if want := modulo(n, size); got != want || e != api.OK {
				t.Errorf("Get of Put(%d, %d) = %d, %d, want %d", n, size, got, e, want)
			}
		}
	}
}

// P1.1: the errors of Get, the range before the end.
func TestGetErrors(t *testing.T) {
	check := func(s string, at, size int, want api.Errno) {
		t.Helper()
		if n, e := codec.Get(s, at, size); n != 0 || e != want {
			t.Errorf("Get(%q, %d, %d) = %d, %d, want 0, %d", s, at, size, n, e, want)
		}
	}
	for _, size := range wrongSizes() {
		for _, at := range []int{math.MinInt, -1, 0, 3, 4, math.MaxInt} {
			check("abc", at, size, api.ErrRange)
		}
	}
	for size := 1; size <= 8; size++ {
		s := "abcdefghij"
		for _, at := range []int{math.MinInt, -8, -1} {
			check(s, at, size, api.ErrRange)
		}
		if _, e := codec.Get(s, len(s)-size, size); e != api.OK {
			t.Errorf("Get of the last %d bytes: %d", size, e)
		}
		for _, at := range []int{len(s) - size + 1, len(s), len(s) + 1, math.MaxInt - 8, math.MaxInt} {
			check(s, at, size, api.ErrShort)
		}
		check("", 0, size, api.ErrShort)
	}
}

// P1.2: known checksums of CRC-32C.
func TestSumKnown(t *testing.T) {
	for _, c := range []struct {
		s    string
		want uint32
	}{
		{"", 0},
		{"123456789", 0xE3069283},
		{strings.Repeat("\x00", 32), 0x8A9136AA},
		{strings.Repeat("\xff", 32), 0x62A8AB43},
	} {
		if got := codec.Sum(c.s); got != c.want {
			t.Errorf("Sum(%q) = %#x, want %#x", c.s, got, c.want)
		}
	}
}

// bitwise is the checksum as the chapter describes it, bit by bit.
func bitwise(s string) uint32 {
	c := uint32(0xFFFFFFFF)
	for i := range len(s) {
		c ^= uint32(s[i])
		for range 8 {
			odd := c&1 == 1
			c >>= 1
			if odd {
				c ^= 0x82F63B78
			}
		}
	}
	return ^c
}

// P1.2: the checksum of every byte and of longer strings, against the description and the standard library.
func TestSumDescribed(t *testing.T) {
	table := crc32.MakeTable(crc32.Castagnoli)
	all := samples()
	for b := range 256 {
		all = append(all, string([]byte{byte(b)}), string([]byte{byte(b), byte(255 - b), 7}))
	}
	for _, s := range all {
		got := codec.Sum(s)
		if got != bitwise(s) || got != crc32.Checksum([]byte(s), table) {
			t.Errorf("Sum of %d bytes %.10q = %#x, want %#x", len(s), s, got, bitwise(s))
		}
	}
}

// P1.3: the parts of a frame.
func TestFrameParts(t *testing.T) {
	for _, p := range samples() {
		f := codec.Frame(p)
		if len(f) != len(p)+8 {
			t.Fatalf("the frame of %d bytes has %d", len(p), len(f))
		}
		n := len(p)
		if f[:4] != string([]byte{byte(n), byte(n >> 8), 0, 0}) || f[4:4+n] != p {
			t.Errorf("the frame of %d bytes begins with %q", n, f[:4])
		}
		sum := bitwise(f[:4+n])
		if f[4+n:] != string([]byte{byte(sum), byte(sum >> 8), byte(sum >> 16), byte(sum >> 24)}) {
			t.Errorf("the frame of %d bytes ends with %q, want %#x", n, f[4+n:], sum)
		}
	}
	if got := codec.Frame("ab"); got[:6] != "\x02\x00\x00\x00ab" {
		t.Errorf("Frame(ab) = %q", got)
	}
}

// P1.3: a payload at its greatest length, and beyond.
func TestFrameLimit(t *testing.T) {
	long := strings.Repeat("p", longest+100)
	if got := len(codec.Frame(long[:longest])); got != longest+8 {
		t.Errorf("the longest frame has %d bytes", got)
	}
	for _, n := range []int{longest + 1, longest + 2, longest + 100} {
		if got := codec.Frame(long[:n]); got != "" {
			t.Errorf("the frame of %d bytes has %d", n, len(got))
		}
	}
}

// checkUnframe checks a result of Unframe.
func checkUnframe(t *testing.T, name, s string, at int, payload string, next int, want api.Errno) {
	t.Helper()
	p, n, e := codec.Unframe(s, at)
	if p != payload || n != next || e != want {
		t.Errorf("%s: %.20q, %d, %d, want %.20q, %d, %d", name, p, n, e, payload, next, want)
	}
}

// P1.4: the payload of a frame and the index behind it, wherever the frame lies.
func TestUnframe(t *testing.T) {
	for _, p := range samples() {
		f := codec.Frame(p)
		checkUnframe(t, "alone", f, 0, p, len(f), api.OK)
		checkUnframe(t, "between others", "xyz"+f+"q", 3, p, 3+len(f), api.OK)
	}
	all := ""
	for _, p := range samples() {
		all += codec.Frame(p)
	}
	at := 0
	for _, p := range samples() {
		checkUnframe(t, "one after the other", all, at, p, at+len(p)+8, api.OK)
		at += len(p) + 8
	}
}

// P1.4: an index that is below 0 or behind the end.
func TestUnframeRange(t *testing.T) {
	f := codec.Frame("ab")
	for _, s := range []string{"", "a", f} {
		for _, at := range []int{math.MinInt, -4, -1, len(s) + 1, len(s) + 8, math.MaxInt} {
			checkUnframe(t, "out of range", s, at, "", 0, api.ErrRange)
		}
		checkUnframe(t, "at the end", s, len(s), "", 0, api.ErrShort)
	}
}

// P1.4: each error before the ones that follow it.
func TestUnframeOrder(t *testing.T) {
	limit := codec.Put("", longest, 4)
	beyond := codec.Put("", longest+1, 4)
	tail := strings.Repeat("x", longest+4)
	checkUnframe(t, "range before a size", beyond+tail, -1, "", 0, api.ErrRange)
	checkUnframe(t, "three bytes of a length", beyond[:3], 0, "", 0, api.ErrShort)
	checkUnframe(t, "three bytes before the end", "ab\xff\xff\xff", 2, "", 0, api.ErrShort)
	checkUnframe(t, "too long, and the end is missing", beyond, 0, "", 0, api.ErrSize)
	checkUnframe(t, "too long, and a sum is wrong", beyond+tail+"x", 0, "", 0, api.ErrSize)
	checkUnframe(t, "a length with its highest bit", "\x00\x00\x00\x80"+tail, 0, "", 0, api.ErrSize)
	checkUnframe(t, "the greatest length", "\xff\xff\xff\xff"+tail, 0, "", 0, api.ErrSize)
	checkUnframe(t, "the longest, nothing behind", limit, 0, "", 0, api.ErrShort)
	checkUnframe(t, "the longest, a byte missing", limit+tail[1:], 0, "", 0, api.ErrShort)
	checkUnframe(t, "the longest, a wrong sum", limit+tail, 0, "", 0, api.ErrSum)
	checkUnframe(t, "no payload, a wrong sum", "\x00\x00\x00\x00\x00\x00\x00\x00", 0, "", 0, api.ErrSum)
}

// P1.4: a frame whose sum is right, but whose payload is too long, is refused for its size.
func TestUnframeTooLong(t *testing.T) {
	body := codec.Put("", longest+1, 4) + strings.Repeat("x", longest+1)
	checkUnframe(t, "one more byte", codec.Put(body, int(codec.Sum(body)), 4), 0, "", 0, api.ErrSize)
}

// P1.4: a frame from which bytes at the end are missing is short, also with a payload that was changed.
func TestUnframeMissing(t *testing.T) {
	for _, p := range []string{"", "a", "abcdefghi"} {
		f := codec.Frame(p)
		for n := range len(f) {
			checkUnframe(t, "missing bytes", f[:n], 0, "", 0, api.ErrShort)
			checkUnframe(t, "missing bytes behind others", "xy"+f[:n], 2, "", 0, api.ErrShort)
		}
	}
	checkUnframe(t, "changed and short", "\x02\x00\x00\x00zz\x00\x00\x00", 0, "", 0, api.ErrShort)
}

// P1.4: a frame in which one byte of the payload or of the checksum is changed has a wrong sum.
func TestUnframeChanged(t *testing.T) {
	f := codec.Frame("payload")
	for at := 4; at < len(f); at++ {
		for mask := 1; mask < 256; mask++ {
			changed := f[:at] + string([]byte{f[at] ^ byte(mask)}) + f[at+1:]
			checkUnframe(t, "changed byte", changed, 0, "", 0, api.ErrSum)
		}
	}
}

// P1.4: the length counts in the sum.
func TestUnframeChangedLength(t *testing.T) {
	payload := strings.Repeat("\x00", 20)
	sum := codec.Put("", int(codec.Sum(payload)), 4)
	checkUnframe(t, "sum of the payload alone", codec.Put("", 20, 4)+payload+sum, 0, "", 0, api.ErrSum)
}
