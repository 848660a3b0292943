package page_test

import (
	"encoding/binary"
	"fmt"
	"hash/crc32"
	"math"
	"strings"
	"testing"

	"pagemend/api"
	"pagemend/page"
)

const (
	cellsAt  = 12
	cellSize = 1 + api.MaxData
	zerosAt  = cellsAt + api.Slots*cellSize
	sumAt    = 244
	againAt  = 248
)

// full is a page in which every length of data occurs, and cells that are not set stand between those that are.
func full(id, lsn int) api.Page {
	p := api.Page{ID: id, LSN: lsn}
	for i := range p.Cells {
		if i%5 != 3 {
			p.Cells[i] = api.Cell{Set: true, Data: strings.Repeat(string(rune('a'+i)), i%(api.MaxData+1))}
		}
	}
	return p
}

// one is a page with one cell that is set.
func one(id, lsn, slot int, data string) api.Page {
	p := api.Page{ID: id, LSN: lsn}
	p.Cells[slot] = api.Cell{Set: true, Data: data}
	return p
}

// hidden is a page with data in a cell that is not set.
func hidden(lsn, slot int, data string) api.Page {
	p := api.Page{LSN: lsn}
	p.Cells[slot].Data = data
	return p
}

// validPages are pages of which each is valid: ordinary ones, and those at the ends of each range.
func validPages() []api.Page {
	last := full(63, 1<<40)
	for i := range last.Cells {
		last.Cells[i] = api.Cell{Set: true, Data: "\xff\xff\xff\xff\xff\xff\xff\xff\xff\xff\xff\xff"}
	}
	return []api.Page{
		{}, {ID: 3}, {ID: 63}, {LSN: 1}, {LSN: 1 << 40}, {ID: 63, LSN: 1<<40 - 1},
		full(0, 1), full(7, 0x0102030405), full(63, 1<<40), last,
		one(5, 9, 0, ""), one(5, 9, 15, ""), one(5, 9, 0, "abcdefghijkl"), one(5, 9, 15, "abcdefghijkl"),
		one(5, 9, 3, "\x00"), one(5, 9, 3, "a\x00"), one(5, 9, 3, "\x00\x00\x00\x00\x00\x00\x00\x00\x00\x00\x00\x00"),
	}
}

// wrongPages are pages that are not valid, with the error of Encode.
func wrongPages() []struct {
	p api.Page
	e api.Errno
} {
	type row = struct {
		p api.Page
		e api.Errno
	}
	var rows []row
	for _, id := range []int{math.MinInt, -64, -1, 64, 65, 1 << 32, math.MaxInt} {
		rows = append(rows, row{api.Page{ID: id}, api.ErrRange}, row{one(id, 1, 0, "a"), api.ErrRange})
		rows = append(rows, row{one(id, 0, 0, "a"), api.ErrRange}, row{one(id, 1, 0, "abcdefghijklm"), api.ErrRange})
	}
	for _, lsn := range []int{math.MinInt, -1 << 40, -1, 1<<40 + 1, math.MaxInt} {
		rows = append(rows, row{api.Page{LSN: lsn}, api.ErrRange}, row{one(0, lsn, 0, "a"), api.ErrRange})
		rows = append(rows, row{hidden(lsn, 1, "a"), api.ErrRange})
	}
	for slot := range api.Slots {
		rows = append(rows,
			row{one(0, 0, slot, ""), api.ErrData}, row{one(63, 0, slot, "a"), api.ErrData},
			row{one(0, 1, slot, "abcdefghijklm"), api.ErrData}, row{one(63, 1<<40, slot, strings.Repeat("a", 255)), api.ErrData},
			row{one(0, 1, slot, strings.Repeat("a", 256)), api.ErrData}, row{hidden(0, slot, "a"), api.ErrData},
			row{hidden(1, slot, "a"), api.ErrData}, row{hidden(1, slot, "\x00"), api.ErrData})
	}
	return rows
}

// seal puts the two LSNs and the checksum into bytes of a page.
func seal(b []byte, lsn int) string {
	binary.LittleEndian.PutUint64(b, uint64(lsn))
	binary.LittleEndian.PutUint32(b[sumAt:], crc32.Checksum(b[:sumAt], crc32.MakeTable(crc32.Castagnoli)))
	binary.LittleEndian.PutUint64(b[againAt:], uint64(lsn))
	return string(b)
}

// layout is the bytes of a page, each field put to the place that the chapter says.
func layout(p api.Page) []byte {
	b := make([]byte, 256)
	binary.LittleEndian.PutUint32(b[8:], uint32(p.ID))
	for i, c := range p.Cells {
		at := cellsAt + i*cellSize
		b[at] = 255
		if c.Set {
			b[at] = byte(len(c.Data))
		}
		copy(b[at+1:at+cellSize], c.Data)
	}
	return b
}

func bytesOf(p api.Page) string { return seal(layout(p), p.LSN) }

// flip returns s with the byte at the index at changed by mask.
func flip(s string, at int, mask byte) string {
	b := []byte(s)
	b[at] ^= mask
	return string(b)
}

// changed returns a page's bytes, changed by edit, with the right checksum and the same LSN at both places.
func changed(p api.Page, edit func(b []byte)) string {
	b := layout(p)
	edit(b)
	return seal(b, p.LSN)
}

// P2.1: New returns the page with this ID, the LSN 0 and empty cells, for any number.
func TestNew(t *testing.T) {
	for _, id := range []int{0, 1, 3, 63, 64, -1, math.MinInt, math.MaxInt} {
		p := page.New(id)
		if p != (api.Page{ID: id}) {
			t.Errorf("New(%d) = %+v", id, p)
		}
		if page.Valid(p) != (id >= 0 && id < 64) {
			t.Errorf("Valid(New(%d)) = %t", id, page.Valid(p))
		}
	}
}

// P2.1: Valid accepts the valid pages and no other.
func TestValid(t *testing.T) {
	for _, p := range validPages() {
		if !page.Valid(p) {
			t.Errorf("not valid: %+v", p)
		}
	}
	for _, c := range wrongPages() {
		if page.Valid(c.p) {
			t.Errorf("valid: %+v", c.p)
		}
	}
}

// P2.1: Blank returns as many bytes 0 as a page has.
func TestBlank(t *testing.T) {
	if s := page.Blank(); s != string(make([]byte, 256)) {
		t.Errorf("Blank() = %q", s)
	}
}

// P2.2: the bytes of a page, each at its place.
func TestEncode(t *testing.T) {
	for _, p := range validPages() {
		s, e := page.Encode(p)
		if e != api.OK || s != bytesOf(p) {
			t.Errorf("Encode(%+v) = %q, %d, want %q", p, s, e, bytesOf(p))
		}
	}
}

// P2.2: the bytes of a page, by their indices: the example of the chapter, and a page with two cells.
func TestEncodePlaces(t *testing.T) {
	s, _ := page.Encode(page.New(3))
	if len(s) != 256 || s[8] != 3 || s[:8] != "\x00\x00\x00\x00\x00\x00\x00\x00" {
		t.Fatalf("Encode(New(3)) = %q", s)
	}
	p := one(2, 0x0A0B, 0, "hi")
	p.Cells[15] = api.Cell{Set: true}
	s, e := page.Encode(p)
	if e != api.OK || len(s) != 256 {
		t.Fatalf("Encode = %d bytes, error %d", len(s), e)
	}
	lsn := "\x0b\x0a\x00\x00\x00\x00\x00\x00"
	if s[:25] != lsn+"\x02\x00\x00\x00"+"\x02hi"+string(make([]byte, 10)) {
		t.Errorf("the first bytes are %q", s[:25])
	}
	if s[25] != 255 || s[26:38] != string(make([]byte, 12)) {
		t.Errorf("the cell 1, which is not set, is %q", s[25:38])
	}
	if s[207:244] != string(make([]byte, 37)) {
		t.Errorf("the cell 15, without data, and the bytes behind it are %q", s[207:244])
	}
	if s[248:] != lsn {
		t.Errorf("the last bytes are %q", s[248:])
	}
}

// P2.2: the errors, in their order, and no bytes with them.
func TestEncodeErrors(t *testing.T) {
	for _, c := range wrongPages() {
		if s, e := page.Encode(c.p); e != c.e || s != "" {
			t.Errorf("Encode(%+v) = %q, %d, want error %d", c.p, s, e, c.e)
		}
	}
}

// P2.3, Consequences: Decode returns the page that was encoded.
func TestDecode(t *testing.T) {
	for _, p := range validPages() {
		if got, e := page.Decode(bytesOf(p)); e != api.OK || got != p {
			t.Errorf("Decode of the bytes of %+v = %+v, %d", p, got, e)
		}
		s, _ := page.Encode(p)
		if got, e := page.Decode(s); e != api.OK || got != p {
			t.Errorf("Decode(Encode(%+v)) = %+v, %d", p, got, e)
		}
	}
}

// formless are bytes with two equal LSNs and a right checksum that are those of no valid page.
func formless() map[string]string {
	put := func(at int, v byte) func([]byte) { return func(b []byte) { b[at] = v } }
	number := func(id uint32) func([]byte) {
		return func(b []byte) { binary.LittleEndian.PutUint32(b[8:], id) }
	}
	p := full(7, 9)
	all := map[string]string{
		"ID 64":             changed(p, number(64)),
		"ID 256":            changed(p, number(256)),
		"ID 2^31":           changed(p, number(1<<31)),
		"ID -1":             changed(p, number(math.MaxUint32)),
		"LSN -1":            seal(layout(p), -1),
		"LSN MinInt":        seal(layout(p), math.MinInt),
		"LSN beyond":        seal(layout(p), 1<<40+1),
		"LSN MaxInt":        seal(layout(p), math.MaxInt),
		"LSN 0, cells":      seal(layout(p), 0),
		"LSN 0, empty data": seal(layout(one(7, 0, 4, "")), 0),
		"no cell set, all lengths 0": changed(api.Page{}, func(b []byte) {
			for i := range api.Slots {
				b[cellsAt+i*cellSize] = 0
			}
		}),
	}
	for _, size := range []byte{13, 14, 127, 128, 254} {
		for _, slot := range []int{0, 8, 15} {
			all[fmt.Sprintf("length %d in the cell %d", size, slot)] = changed(p, put(cellsAt+slot*cellSize, size))
		}
	}
	for i := range api.MaxData {
		all[fmt.Sprintf("byte %d in a cell that is not set", i)] = changed(api.Page{LSN: 1}, put(cellsAt+cellSize+1+i, 1))
		all[fmt.Sprintf("byte behind %d bytes of data", i)] = changed(one(1, 1, 2, "abcdefghijkl"[:i]), put(cellsAt+2*cellSize+1+i, 'x'))
	}
	for at := zerosAt; at < sumAt; at++ {
		all[fmt.Sprintf("byte %d, behind the cells", at)] = changed(p, put(at, 1))
	}
	return all
}

// P2.3: bytes with a right checksum that are those of no valid page.
func TestDecodeForm(t *testing.T) {
	for name, s := range formless() {
		if p, e := page.Decode(s); e != api.ErrForm || p != (api.Page{}) {
			t.Errorf("%s: Decode = %+v, %d", name, p, e)
		}
		if p, e := page.Identify(s, 7); e != api.ErrForm || p != (api.Page{}) {
			t.Errorf("%s: Identify = %+v, %d", name, p, e)
		}
	}
}

// notPages are bytes that Decode refuses, with its error: each with the errors that stand behind it in the order, too.
func notPages() []struct {
	name, s string
	e       api.Errno
} {
	good := bytesOf(full(7, 9))
	odd := changed(full(7, 9), func(b []byte) { b[cellsAt] = 13 })
	zeros := string(make([]byte, 257))
	return []struct {
		name, s string
		e       api.Errno
	}{
		{"nothing", "", api.ErrSize},
		{"one byte", "\x00", api.ErrSize},
		{"255 bytes 0", zeros[:255], api.ErrSize},
		{"257 bytes 0", zeros, api.ErrSize},
		{"a byte less", good[:255], api.ErrSize},
		{"a byte more", good + "\x00", api.ErrSize},
		{"two pages", good + good, api.ErrSize},
		{"other bytes", strings.Repeat("x", 100), api.ErrSize},
		{"blank", zeros[:256], api.ErrBlank},
		{"first LSN", flip(good, 0, 1), api.ErrPosition},
		{"second LSN", flip(good, 255, 128), api.ErrPosition},
		{"LSN, sum", flip(flip(good, 248, 1), 20, 1), api.ErrPosition},
		{"LSN, sum, form", flip(flip(odd, 248, 1), 20, 1), api.ErrPosition},
		{"first byte of the zeros", flip(zeros[:256], 0, 1), api.ErrPosition},
		{"last byte of the zeros", flip(zeros[:256], 255, 1), api.ErrPosition},
		{"cell", flip(good, 20, 1), api.ErrSum},
		{"sum", flip(good, sumAt, 1), api.ErrSum},
		{"end of the sum", flip(good, againAt-1, 128), api.ErrSum},
		{"both LSNs", flip(flip(good, 0, 2), 248, 2), api.ErrSum},
		{"sum, form", flip(odd, sumAt, 1), api.ErrSum},
		{"a byte between zeros", flip(zeros[:256], 100, 1), api.ErrSum},
		{"form", odd, api.ErrForm},
	}
}

// P2.3: the errors, in their order, and no page with them.
func TestDecodeErrors(t *testing.T) {
	for _, c := range notPages() {
		if p, e := page.Decode(c.s); e != c.e || p != (api.Page{}) {
			t.Errorf("%s: Decode = %+v, %d, want error %d", c.name, p, e, c.e)
		}
	}
}

// P2.4: the page with the ID that is wanted; a new one for blank bytes.
func TestIdentify(t *testing.T) {
	for id := range api.MaxPages {
		if p, e := page.Identify(page.Blank(), id); e != api.OK || p != (api.Page{ID: id}) {
			t.Errorf("Identify(Blank(), %d) = %+v, %d", id, p, e)
		}
	}
	for _, want := range validPages() {
		for id := range api.MaxPages {
			p, e := page.Identify(bytesOf(want), id)
			if id == want.ID && (e != api.OK || p != want) {
				t.Errorf("Identify of the page %+v = %+v, %d", want, p, e)
			}
			if id != want.ID && (e != api.ErrIdentity || p != (api.Page{})) {
				t.Errorf("Identify of the page %d as %d = %+v, %d", want.ID, id, p, e)
			}
		}
	}
}

// P2.4: a number that is no ID comes before all errors of the bytes, and these before another identity.
func TestIdentifyErrors(t *testing.T) {
	for _, id := range []int{math.MinInt, -64, -1, 64, 65, math.MaxInt} {
		for _, s := range []string{page.Blank(), bytesOf(full(7, 9)), "", flip(bytesOf(full(7, 9)), 20, 1)} {
			if p, e := page.Identify(s, id); e != api.ErrRange || p != (api.Page{}) {
				t.Errorf("Identify(%q, %d) = %+v, %d", s, id, p, e)
			}
		}
	}
	for _, c := range notPages() {
		if c.e == api.ErrBlank {
			continue
		}
		for _, id := range []int{0, 7, 63} {
			if p, e := page.Identify(c.s, id); e != c.e || p != (api.Page{}) {
				t.Errorf("%s: Identify = %+v, %d, want error %d", c.name, p, e, c.e)
			}
		}
	}
}

// Consequences: bytes that are decoded are those that Encode returns, whichever byte is changed, to whatever value, with a right checksum.
func TestDecodedBytesAreEncoded(t *testing.T) {
	for _, p := range []api.Page{{ID: 2}, {ID: 2, LSN: 1}, full(7, 9), one(63, 1<<40, 4, "\x00a")} {
		decoded := 0
		for at := range sumAt {
			for v := range 256 {
				b := layout(p)
				binary.LittleEndian.PutUint64(b, uint64(p.LSN))
				b[at] = byte(v)
				s := seal(b, int(binary.LittleEndian.Uint64(b)))
				got, e := page.Decode(s)
				if e != api.OK {
					continue
				}
				decoded++
				if again, e := page.Encode(got); e != api.OK || again != s {
					t.Errorf("Decode returns %+v of the bytes %q, which are not those of this page", got, s)
				}
			}
		}
		if decoded < 64 {
			t.Errorf("only %d changes of %+v are decoded", decoded, p)
		}
	}
}

// Consequences: bytes in which one byte was changed are refused: in every way, in one page; by each bit, in the others.
func TestOneByteChanged(t *testing.T) {
	for _, p := range validPages() {
		s, every := bytesOf(p), p == full(63, 1<<40)
		for at := range len(s) {
			for mask := 1; mask < 256; mask++ {
				if !every && mask&(mask-1) != 0 {
					continue
				}
				got, e := page.Decode(flip(s, at, byte(mask)))
				want := api.ErrSum
				if at < 8 || at >= againAt {
					want = api.ErrPosition
				}
				if e != want || got != (api.Page{}) {
					t.Fatalf("%+v, byte %d, mask %d: %+v, %d", p, at, mask, got, e)
				}
			}
		}
	}
}

// Consequences: a write that is cut anywhere leaves one of both versions, or is refused.
func TestTornPage(t *testing.T) {
	versions := []api.Page{full(7, 0x0102), full(7, 0x0202), full(7, 0x0103), full(7, 1<<40), one(7, 0x0104, 15, "z"), {ID: 7, LSN: 0x0105}, {ID: 7}}
	for i, a := range versions {
		for j, b := range versions {
			if i == j {
				continue
			}
			tear(t, bytesOf(a), bytesOf(b))
		}
		tear(t, bytesOf(a), page.Blank())
		tear(t, page.Blank(), bytesOf(a))
	}
}

// tear cuts a write of the bytes a over the bytes b at each index.
func tear(t *testing.T, a, b string) {
	t.Helper()
	for k := 0; k <= len(a); k++ {
		s := a[:k] + b[k:]
		p, e := page.Identify(s, 7)
		if whole := s == a || s == b; whole != (e == api.OK) {
			t.Errorf("%q over %q, cut at %d: %+v, %d", a, b, k, p, e)
		}
		if e != api.OK && p != (api.Page{}) {
			t.Errorf("cut at %d: %+v with the error %d", k, p, e)
		}
	}
}
