package entry_test

import (
	"encoding/binary"
	"fmt"
	"math"
	"math/rand"
	"slices"
	"strings"
	"testing"

	"pagemend/api"
	"pagemend/entry"
)

const (
	maxLSN  = 1 << 40
	maxTx   = 1 << 30
	maxBlob = 8192

	beforeAt = 42 // the byte of the cell Before
)

func set(data string) api.Cell { return api.Cell{Set: true, Data: data} }

func filled(size int) string { return strings.Repeat("b", size) }

// kinds are the eight.
func kinds() []int { return []int{1, 2, 3, 4, 5, 6, 7, 8} }

// base is a valid entry with this kind, in which each field that the kind names has a value of its own.
func base(kind int) api.Entry {
	e := api.Entry{LSN: 90, Kind: kind}
	c := api.Change{Page: 21, Slot: 9, Before: set("old"), After: set("newer")}
	switch kind {
	case api.EntryChange:
		e.Tx, e.PrevTx, e.PrevPage, e.Change = 7, 80, 70, c
	case api.EntryUndo:
		e.Tx, e.PrevTx, e.PrevPage, e.Ref, e.Change = 7, 80, 70, 60, c
	case api.EntryCommit, api.EntryAbort, api.EntryEnd:
		e.Tx, e.PrevTx = 7, 80
	case api.EntryCheckpoint, api.EntryNote:
		e.Blob = "a blob"
	case api.EntryIndex:
		e.Ref, e.Change.Page = 60, 21
	}
	return e
}

// changesPage reports whether entries of a kind have a change.
func changesPage(kind int) bool { return kind == api.EntryChange || kind == api.EntryUndo }

// hasTx reports whether entries of a kind have a transaction.
func hasTx(kind int) bool { return kind >= api.EntryChange && kind <= api.EntryEnd }

// hasBlob reports whether entries of a kind have a Blob.
func hasBlob(kind int) bool { return kind == api.EntryCheckpoint || kind == api.EntryNote }

// needsPrevTx reports whether entries of a kind have another entry of their transaction before them.
func needsPrevTx(kind int) bool { return kind >= api.EntryUndo && kind <= api.EntryEnd }

// goodCells are valid cells: not set, set and empty, longest ones, and some between them.
func goodCells() []api.Cell {
	return []api.Cell{{}, set(""), set("\x00"), set("\xff"), set("x"), set("abcdefghijkl"), set(strings.Repeat("\xff", 12))}
}

// badCells are cells that are not valid.
func badCells() []api.Cell {
	return []api.Cell{
		set("abcdefghijklm"), set(filled(254)), set(filled(255)), set(filled(256)), set(filled(268)),
		{Data: "x"}, {Data: "\x00"}, {Data: "abcdefghijkl"}, {Data: "abcdefghijklm"},
	}
}

// badChanges are changes that are not valid, in each of the ways.
func badChanges() []api.Change {
	var all []api.Change
	for _, page := range []int{math.MinInt, -1, 64, 65, 256, 1 << 32, math.MaxInt} {
		all = append(all, api.Change{Page: page, Slot: 3, Before: set("x"), After: set("y")})
	}
	for _, slot := range []int{math.MinInt, -1, 16, 17, 256, 1 << 32, math.MaxInt} {
		all = append(all, api.Change{Page: 3, Slot: slot, Before: set("x"), After: set("y")})
	}
	for _, c := range badCells() {
		all = append(all, api.Change{Page: 3, Slot: 4, Before: c, After: set("y")}, api.Change{Page: 3, Slot: 4, Before: set("x"), After: c})
	}
	return all
}

// samples are valid entries of all kinds: ordinary ones, and those at the ends of each range.
func samples() []api.Entry {
	all := []api.Entry{
		{LSN: 1, Kind: api.EntryChange, Tx: 1},
		{LSN: 1, Kind: api.EntryCheckpoint},
		{LSN: 1, Kind: api.EntryIndex},
		{LSN: 1, Kind: api.EntryNote},
		{LSN: 2, Kind: api.EntryUndo, Tx: 1, PrevTx: 1, Ref: 1},
		{LSN: 2, Kind: api.EntryCommit, Tx: 1, PrevTx: 1},
		{LSN: maxLSN, Kind: api.EntryChange, Tx: maxTx, PrevTx: maxLSN - 1, PrevPage: maxLSN - 1,
			Change: api.Change{Page: 63, Slot: 15, Before: set("\xff\xff\xff\xff\xff\xff\xff\xff\xff\xff\xff\xff"), After: set("\x00\x00\x00\x00\x00\x00\x00\x00\x00\x00\x00\x00")}},
		{LSN: maxLSN, Kind: api.EntryUndo, Tx: maxTx, PrevTx: maxLSN - 1, PrevPage: maxLSN - 2, Ref: maxLSN - 1, Change: api.Change{Page: 63, Slot: 15}},
		{LSN: 0x0102030405, Kind: api.EntryUndo, Tx: 0x06070809, PrevTx: 0x0102030404, PrevPage: 0x0101020304, Ref: 0x0100010203,
			Change: api.Change{Page: 10, Slot: 11, Before: set("\x0c"), After: set("\x0d\x0e")}},
		{LSN: maxLSN, Kind: api.EntryEnd, Tx: maxTx, PrevTx: maxLSN - 1},
		{LSN: maxLSN, Kind: api.EntryIndex, Ref: maxLSN - 1, Change: api.Change{Page: 63}},
	}
	for _, kind := range kinds() {
		all = append(all, base(kind))
		if hasBlob(kind) {
			for _, size := range []int{0, 1, 255, 256, maxBlob} {
				all = append(all, api.Entry{LSN: 9, Kind: kind, Blob: filled(size)})
			}
		}
		if !changesPage(kind) {
			continue
		}
		for _, before := range goodCells() {
			for _, after := range goodCells() {
				e := base(kind)
				e.Change.Before, e.Change.After = before, after
				all = append(all, e)
			}
		}
	}
	return all
}

// validity checks whether e is valid, and that Encode says so too.
func validity(t *testing.T, e api.Entry, want bool) {
	t.Helper()
	if entry.Valid(e) != want {
		t.Errorf("Valid is not %v: %.300q", want, show(e))
	}
	s, code := entry.Encode(e)
	switch {
	case want && code != api.OK:
		t.Errorf("Encode of a valid entry: error %d: %.300q", code, show(e))
	case !want && (s != "" || code != api.ErrEntry):
		t.Errorf("Encode of an entry that is not valid: %d bytes, error %d: %.300q", len(s), code, show(e))
	}
}

// bytesOf are the bytes of e, each field put to the place that the chapter says, valid or not.
func bytesOf(e api.Entry) []byte {
	order := binary.LittleEndian
	b := order.AppendUint64(nil, uint64(e.LSN))
	b = append(b, byte(e.Kind))
	b = order.AppendUint32(b, uint32(e.Tx))
	b = order.AppendUint64(b, uint64(e.PrevTx))
	b = order.AppendUint64(b, uint64(e.PrevPage))
	b = order.AppendUint64(b, uint64(e.Ref))
	b = order.AppendUint32(b, uint32(e.Change.Page))
	b = append(b, byte(e.Change.Slot))
	for _, c := range []api.Cell{e.Change.Before, e.Change.After} {
		if !c.Set {
			b = append(b, 255)
			continue
		}
		b = append(b, byte(len(c.Data)))
		b = append(b, c.Data...)
	}
	b = order.AppendUint32(b, uint32(len(e.Blob)))
	return append(b, e.Blob...)
}

// refused checks that s is no entry, for this error.
func refused(t *testing.T, name, s string, want api.Errno) {
	t.Helper()
	if e, code := entry.Decode(s); code != want || e != (api.Entry{}) {
		t.Errorf("%s: Decode of %d bytes: error %d, want %d, %.300q", name, len(s), code, want, show(e))
	}
}

// decodes checks that s are the bytes of want.
func decodes(t *testing.T, s string, want api.Entry) {
	t.Helper()
	if e, code := entry.Decode(s); code != api.OK || e != want {
		t.Errorf("Decode: error %d, %.300q, want %.300q", code, show(e), show(want))
	}
}

// P5.1: a change and an undo change a page, whatever their other fields are; no other kind does.
func TestChanges(t *testing.T) {
	for _, kind := range append(kinds(), math.MinInt, -2, -1, 0, 9, 10, 257, 258, 1<<32+1, 1<<32+2, math.MaxInt) {
		want := kind == api.EntryChange || kind == api.EntryUndo
		if entry.Changes(base(kind)) != want || entry.Changes(api.Entry{Kind: kind}) != want {
			t.Errorf("kind %d: not %v", kind, want)
		}
		if e := (api.Entry{Kind: kind, LSN: -5, Tx: -5, Change: badChanges()[0], Blob: "x"}); entry.Changes(e) != want {
			t.Errorf("not valid, kind %d: not %v", kind, want)
		}
	}
}

// P5.1: ordinary entries of each kind, and those at the ends of each range.
func TestValid(t *testing.T) {
	for _, e := range samples() {
		validity(t, e, true)
	}
}

// P5.1: no other kinds than the eight, whatever the other fields are.
func TestKinds(t *testing.T) {
	for _, kind := range []int{math.MinInt, -257, -8, -1, 0, 9, 10, 255, 256, 257, 264, 1<<32 + 1, math.MaxInt} {
		for _, like := range kinds() {
			e := base(like)
			validity(t, e, true)
			e.Kind = kind
			validity(t, e, false)
		}
		validity(t, api.Entry{LSN: 5, Kind: kind}, false)
	}
}

// P5.1: LSN from 1 to api.MaxLSN.
func TestLSN(t *testing.T) {
	for _, kind := range kinds() {
		for _, lsn := range []int{math.MinInt, -maxLSN, -1, 0, maxLSN + 1, 1 << 41, math.MaxInt} {
			e := base(kind)
			e.LSN = lsn
			validity(t, e, false)
			validity(t, least(kind, lsn), false)
		}
		for _, lsn := range []int{2, 3, 1 << 32, maxLSN - 1, maxLSN} {
			validity(t, least(kind, lsn), true)
		}
		validity(t, least(kind, 1), !needsPrevTx(kind))
	}
}

// least is the entry with this number that refers to the least numbers that its kind permits.
func least(kind, lsn int) api.Entry {
	e := api.Entry{LSN: lsn, Kind: kind}
	if hasTx(kind) {
		e.Tx = 1
	}
	if needsPrevTx(kind) {
		e.PrevTx = 1
	}
	if kind == api.EntryUndo {
		e.Ref = 1
	}
	return e
}

// P5.1: Tx from 1 to api.MaxTx, for the kinds that name it; otherwise 0.
func TestTx(t *testing.T) {
	for _, kind := range kinds() {
		for _, tx := range []int{math.MinInt, -maxTx, -1, 0, 1, 2, maxTx - 1, maxTx, maxTx + 1, 1 << 32, 1<<32 + 1, math.MaxInt} {
			e := base(kind)
			e.Tx = tx
			if hasTx(kind) {
				validity(t, e, tx >= 1 && tx <= maxTx)
			} else {
				validity(t, e, tx == 0)
			}
		}
	}
}

// numbers are those that a field that refers to an entry may have in the entry lsn, and some that it may not have.
func numbers(lsn int) (inside, outside []int) {
	return []int{1, 2, lsn / 2, lsn - 2, lsn - 1}, []int{math.MinInt, -lsn, -1, lsn, lsn + 1, math.MaxInt}
}

// references checks a field that refers to an entry: whether 0 is valid, and whether a number before the entry is.
func references(t *testing.T, kind int, put func(*api.Entry, int), zero, some bool) {
	t.Helper()
	for _, lsn := range []int{90, maxLSN} {
		check := func(n int, want bool) {
			t.Helper()
			e := base(kind)
			e.LSN = lsn
			put(&e, n)
			validity(t, e, want)
		}
		inside, outside := numbers(lsn)
		check(0, zero)
		for _, n := range inside {
			check(n, some)
		}
		for _, n := range outside {
			check(n, false)
		}
	}
}

// P5.1: PrevTx from 0 to LSN - 1, greater than 0 but for a change, and 0 for the kinds that do not name it.
func TestPrevTx(t *testing.T) {
	for _, kind := range kinds() {
		references(t, kind, func(e *api.Entry, n int) {
			e.PrevTx = n
			if kind == api.EntryUndo {
				e.Ref = min(max(n, 1), e.LSN-1)
			}
		}, !needsPrevTx(kind), hasTx(kind))
	}
}

// P5.1: PrevPage from 0 to LSN - 1 for the kinds that name it; otherwise 0.
func TestPrevPage(t *testing.T) {
	for _, kind := range kinds() {
		references(t, kind, func(e *api.Entry, n int) { e.PrevPage = n }, true, changesPage(kind))
	}
}

// P5.1: Ref from 0 to LSN - 1 for an EntryIndex, from 1 on for an EntryUndo; otherwise 0.
func TestRef(t *testing.T) {
	for _, kind := range kinds() {
		references(t, kind, func(e *api.Entry, n int) {
			e.Ref = n
			if kind == api.EntryUndo {
				e.PrevTx = e.LSN - 1
			}
		}, kind != api.EntryUndo, kind == api.EntryUndo || kind == api.EntryIndex)
	}
}

// P5.1: what an EntryUndo refers to is not behind PrevTx.
func TestUndo(t *testing.T) {
	for _, prev := range []int{0, 1, 2, 50, 88, 89} {
		for ref := -1; ref <= 91; ref++ {
			e := base(api.EntryUndo)
			e.PrevTx, e.Ref = prev, ref
			validity(t, e, ref >= 1 && ref <= prev)
		}
	}
}

// P5.1: what a kind does not name is 0, empty or not set.
func TestNotNamed(t *testing.T) {
	not := func(kind int, change func(e *api.Entry)) {
		t.Helper()
		for _, e := range []api.Entry{base(kind), least(kind, 90)} {
			validity(t, e, true)
			change(&e)
			validity(t, e, false)
		}
	}
	for _, kind := range kinds() {
		if !hasTx(kind) {
			not(kind, func(e *api.Entry) { e.Tx = 1 })
			not(kind, func(e *api.Entry) { e.PrevTx = 1 })
			not(kind, func(e *api.Entry) { e.Tx, e.PrevTx = 7, 80 })
		}
		if !changesPage(kind) {
			not(kind, func(e *api.Entry) { e.PrevPage = 1 })
			not(kind, func(e *api.Entry) { e.Change.Slot = 1 })
			not(kind, func(e *api.Entry) { e.Change.Before = set("") })
			not(kind, func(e *api.Entry) { e.Change.After = set("") })
			not(kind, func(e *api.Entry) { e.Change.Before = set("x") })
			not(kind, func(e *api.Entry) { e.Change.After = set("x") })
			not(kind, func(e *api.Entry) { e.Change.Before.Data = "x" })
			not(kind, func(e *api.Entry) { e.Change.After.Data = "x" })
		}
		if !changesPage(kind) && kind != api.EntryIndex {
			not(kind, func(e *api.Entry) { e.Change.Page = 1 })
			not(kind, func(e *api.Entry) { e.Change.Page = 63 })
		}
		if kind != api.EntryUndo && kind != api.EntryIndex {
			not(kind, func(e *api.Entry) { e.Ref = 1 })
		}
		if !hasBlob(kind) {
			not(kind, func(e *api.Entry) { e.Blob = "x" })
			not(kind, func(e *api.Entry) { e.Blob = "\x00" })
			not(kind, func(e *api.Entry) { e.Blob = filled(maxBlob) })
		}
	}
}

// P5.1: an EntryIndex has every page, and no other one.
func TestIndexPage(t *testing.T) {
	for _, ref := range []int{0, 60} {
		for page := -1; page <= 65; page++ {
			validity(t, api.Entry{LSN: 90, Kind: api.EntryIndex, Ref: ref, Change: api.Change{Page: page}}, page >= 0 && page <= 63)
		}
		for _, page := range []int{math.MinInt, -64, 256, 1 << 32, math.MaxInt} {
			validity(t, api.Entry{LSN: 90, Kind: api.EntryIndex, Ref: ref, Change: api.Change{Page: page}}, false)
		}
	}
}

// P5.1: a Blob of at most api.MaxBlob bytes.
func TestBlob(t *testing.T) {
	for _, kind := range kinds() {
		for _, size := range []int{0, 1, 2, maxBlob - 1, maxBlob, maxBlob + 1, maxBlob + 200, 2 * maxBlob, 1<<16 + 1} {
			e := base(kind)
			e.Blob = filled(size)
			validity(t, e, size == 0 || hasBlob(kind) && size <= maxBlob)
		}
	}
}

// P5.1: the change of an EntryChange and of an EntryUndo is valid; no other kind has one, valid or not.
func TestChange(t *testing.T) {
	for _, kind := range kinds() {
		for _, c := range badChanges() {
			e := base(kind)
			e.Change = c
			validity(t, e, false)
		}
		for page := range 64 {
			for slot := range 16 {
				e := base(kind)
				e.Change.Page, e.Change.Slot = page, slot
				index := kind == api.EntryIndex && slot == 0
				validity(t, e, changesPage(kind) || index || e.Change == api.Change{})
			}
		}
	}
	same := base(api.EntryChange)
	same.Change.After = same.Change.Before
	validity(t, same, true)
}

// validModel is the table of the chapter, read row by row.
func validModel(e api.Entry) bool {
	inside := func(n, low, high int) bool { return low <= n && n <= high }
	cell := func(c api.Cell) bool { return len(c.Data) == 0 || c.Set && len(c.Data) <= 12 }
	c := e.Change
	change := inside(c.Page, 0, 63) && inside(c.Slot, 0, 15) && cell(c.Before) && cell(c.After)
	rest := e // what the kind does not name
	rest.LSN, rest.Kind = 0, 0
	ok := false
	switch e.Kind {
	case api.EntryChange:
		ok = inside(e.Tx, 1, maxTx) && change
		rest.Tx, rest.PrevTx, rest.PrevPage, rest.Change = 0, 0, 0, api.Change{}
	case api.EntryUndo:
		ok = inside(e.Tx, 1, maxTx) && e.PrevTx > 0 && inside(e.Ref, 1, e.PrevTx) && change
		rest.Tx, rest.PrevTx, rest.PrevPage, rest.Ref, rest.Change = 0, 0, 0, 0, api.Change{}
	case api.EntryCommit, api.EntryAbort, api.EntryEnd:
		ok = inside(e.Tx, 1, maxTx) && e.PrevTx > 0
		rest.Tx, rest.PrevTx = 0, 0
	case api.EntryCheckpoint, api.EntryNote:
		ok = len(e.Blob) <= maxBlob
		rest.Blob = ""
	case api.EntryIndex:
		ok = inside(c.Page, 0, 63)
		rest.Ref, rest.Change.Page = 0, 0
	}
	return ok && rest == (api.Entry{}) && inside(e.LSN, 1, maxLSN) &&
		inside(e.PrevTx, 0, e.LSN-1) && inside(e.PrevPage, 0, e.LSN-1) && inside(e.Ref, 0, e.LSN-1)
}

// P5.1: entries in which some fields of a valid one are changed at random are valid as the table says.
func TestValidAsTable(t *testing.T) {
	random := rand.New(rand.NewSource(51))
	pick := func(ns ...int) int { return ns[random.Intn(len(ns))] }
	cells := append(goodCells(), badCells()...)
	valid := 0
	for range 100000 {
		e := base(pick(kinds()...))
		for range random.Intn(4) {
			switch random.Intn(11) {
			case 0:
				e.LSN = pick(-1, 0, 1, 2, 60, 61, 80, 81, 90, maxLSN, maxLSN+1)
			case 1:
				e.Kind = random.Intn(11) - 1
			case 2:
				e.Tx = pick(-1, 0, 1, maxTx, maxTx+1)
			case 3:
				e.PrevTx = pick(-1, 0, 1, 59, 60, 61, e.LSN)
			case 4:
				e.PrevPage = pick(-1, 0, 1, 89, 90, 91)
			case 5:
				e.Ref = pick(-1, 0, 1, e.PrevTx, e.LSN)
			case 6:
				e.Change.Page = pick(-1, 0, 1, 63, 64)
			case 7:
				e.Change.Slot = pick(-1, 0, 1, 15, 16)
			case 8:
				e.Change.Before = cells[random.Intn(len(cells))]
			case 9:
				e.Change.After = cells[random.Intn(len(cells))]
			case 10:
				e.Blob = filled(pick(0, 0, 1, maxBlob, maxBlob+1))
			}
		}
		if validModel(e) {
			valid++
		}
		validity(t, e, validModel(e))
	}
	if valid < 10000 || valid > 90000 {
		t.Errorf("%d entries are valid: too few of one kind", valid)
	}
}

// P5.2: the bytes of an entry, field by field.
func TestEncodeBytes(t *testing.T) {
	e := api.Entry{LSN: 0x0102030405, Kind: api.EntryUndo, Tx: 0x06070809, PrevTx: 0x0102030404, PrevPage: 0x0101020304, Ref: 0x0100010203,
		Change: api.Change{Page: 10, Slot: 11, After: set("xyz")}}
	want := "\x05\x04\x03\x02\x01\x00\x00\x00" + "\x02" + "\x09\x08\x07\x06" +
		"\x04\x04\x03\x02\x01\x00\x00\x00" + "\x04\x03\x02\x01\x01\x00\x00\x00" + "\x03\x02\x01\x00\x01\x00\x00\x00" +
		"\x0a\x00\x00\x00" + "\x0b" + "\xff" + "\x03xyz" + "\x00\x00\x00\x00"
	if s, code := entry.Encode(e); s != want || code != api.OK {
		t.Errorf("an undo: %q, %d", s, code)
	}
	e = api.Entry{LSN: 4, Kind: api.EntryNote, Blob: filled(300)}
	want = "\x04\x00\x00\x00\x00\x00\x00\x00\x08" + strings.Repeat("\x00", 33) + "\xff\xff" + "\x2c\x01\x00\x00" + filled(300)
	if s, code := entry.Encode(e); s != want || code != api.OK {
		t.Errorf("a note: %q, %d", s, code)
	}
}

// P5.2: Encode lays each entry out, and Decode of its bytes is the entry.
func TestEncodeDecode(t *testing.T) {
	for _, e := range samples() {
		s, code := entry.Encode(e)
		if s != string(bytesOf(e)) || code != api.OK {
			t.Errorf("error %d, %.300q: %.300q", code, show(e), s)
		}
		decodes(t, s, e)
	}
}

// P5.2: the commit of the transaction 2 with the number 9 behind its entry 8 has 48 bytes.
func TestExample(t *testing.T) {
	e := api.Entry{LSN: 9, Kind: api.EntryCommit, Tx: 2, PrevTx: 8}
	want := "\x09\x00\x00\x00\x00\x00\x00\x00\x03\x02\x00\x00\x00\x08" + strings.Repeat("\x00", 28) + "\xff\xff\x00\x00\x00\x00"
	s, code := entry.Encode(e)
	if s != want || len(s) != 48 || code != api.OK {
		t.Errorf("%d bytes, error %d: %q", len(s), code, s)
	}
	decodes(t, want, e)
}

// P5.2: an entry that is not valid has no bytes, though its fields would fit into them.
func TestEncodeNotValid(t *testing.T) {
	for _, e := range notValid() {
		validity(t, e, false)
	}
}

// notValid are entries that are not valid, whose fields fit into bytes all the same.
func notValid() []api.Entry {
	var all []api.Entry
	with := func(kind int, change func(e *api.Entry)) {
		e := base(kind)
		change(&e)
		all = append(all, e)
	}
	for _, kind := range kinds() {
		for _, lsn := range []int{math.MinInt, -1, 0, maxLSN + 1, math.MaxInt} {
			with(kind, func(e *api.Entry) { e.LSN = lsn })
		}
		for _, wrong := range []int{0, 9, 128, 255} {
			with(kind, func(e *api.Entry) { e.Kind = wrong })
		}
		for _, tx := range []int{maxTx + 1, 1 << 31, 1<<32 - 1} {
			with(kind, func(e *api.Entry) { e.Tx = tx })
		}
		for _, n := range []int{math.MinInt, -1, 90, math.MaxInt} {
			with(kind, func(e *api.Entry) { e.PrevTx = n })
			with(kind, func(e *api.Entry) { e.PrevPage = n })
			with(kind, func(e *api.Entry) { e.Ref = n })
		}
		for _, page := range []int{64, 256, 1 << 31, 1<<32 - 1} {
			with(kind, func(e *api.Entry) { e.Change.Page = page })
		}
		for _, slot := range []int{16, 128, 255} {
			with(kind, func(e *api.Entry) { e.Change.Slot = slot })
		}
		with(kind, func(e *api.Entry) { e.Blob = filled(maxBlob + 1) })
	}
	with(api.EntryChange, func(e *api.Entry) { e.Blob = "x" })
	with(api.EntryCommit, func(e *api.Entry) { e.Change.After = set("") })
	with(api.EntryIndex, func(e *api.Entry) { e.Change.Before = set("x") })
	with(api.EntryUndo, func(e *api.Entry) { e.Ref = e.PrevTx + 1 })
	return all
}

// P5.2: the bytes of an entry that is not valid are refused; bytes that follow, or that are missing, come first.
func TestDecodeNotValid(t *testing.T) {
	for _, e := range notValid() {
		s := string(bytesOf(e))
		refused(t, "not valid", s, api.ErrEntry)
		refused(t, "not valid, a byte follows", s+"\x00", api.ErrForm)
		refused(t, "not valid, an entry follows", s+s, api.ErrForm)
		refused(t, "not valid, a byte is missing", s[:len(s)-1], api.ErrShort)
	}
}

// P5.2: bytes that end too early, at each place.
func TestDecodeShort(t *testing.T) {
	for _, e := range samples() {
		s := string(bytesOf(e))
		for size := range len(s) {
			if size < 200 || size%977 == 0 || size > len(s)-3 {
				refused(t, "short", s[:size], api.ErrShort)
			}
		}
	}
}

// P5.2: a Blob that is longer than what follows, up to the greatest length.
func TestDecodeBlobShort(t *testing.T) {
	head := string(bytesOf(api.Entry{LSN: 9, Kind: api.EntryNote}))[:44]
	length := func(n uint32) string { return string(binary.LittleEndian.AppendUint32(nil, n)) }
	for _, n := range []uint32{11, 256, maxBlob, maxBlob + 1, 1 << 31, 1<<31 + 10, 1<<32 - 1} {
		refused(t, "no Blob", head+length(n), api.ErrShort)
		refused(t, "ten bytes", head+length(n)+filled(10), api.ErrShort)
	}
	decodes(t, head+length(10)+filled(10), api.Entry{LSN: 9, Kind: api.EntryNote, Blob: filled(10)})
	refused(t, "one byte more", head+length(9)+filled(10), api.ErrForm)
	refused(t, "too long", head+length(maxBlob+1)+filled(maxBlob+1), api.ErrEntry)
	refused(t, "too long, a byte is missing", head+length(maxBlob+1)+filled(maxBlob), api.ErrShort)
	refused(t, "too long, a byte follows", head+length(maxBlob+1)+filled(maxBlob+2), api.ErrForm)
}

// P5.2: the byte of each cell is a length up to api.MaxData, or 255.
func TestDecodeCellByte(t *testing.T) {
	head := string(bytesOf(api.Entry{LSN: 9, Kind: api.EntryChange, Tx: 2}))[:beforeAt]
	tail := "\x00\x00\x00\x00"
	for b := range 256 {
		first := head + string([]byte{byte(b)})
		second := head + "\xff" + string([]byte{byte(b)})
		e := api.Entry{LSN: 9, Kind: api.EntryChange, Tx: 2}
		switch {
		case b <= 12:
			e.Change.Before = set(filled(b))
			decodes(t, first+filled(b)+"\xff"+tail, e)
			e.Change.Before, e.Change.After = api.Cell{}, set(filled(b))
			decodes(t, second+filled(b)+tail, e)
		case b < 255:
			for _, rest := range []string{"", "\xff", filled(b), filled(b) + "\xff" + tail, filled(b) + tail} {
				refused(t, "the first cell", first+rest, api.ErrForm)
				refused(t, "the second cell", second+rest, api.ErrForm)
			}
		default:
			decodes(t, first+"\xff"+tail, e)
			decodes(t, second+tail, e)
		}
	}
}

// P5.2: of the ends within a field and the wrong bytes of cells, the first one from the front counts.
func TestDecodeFirstFromFront(t *testing.T) {
	head := string(bytesOf(base(api.EntryChange)))[:beforeAt]
	refused(t, "short before a cell", head[:41], api.ErrShort)
	refused(t, "no cell", head, api.ErrShort)
	refused(t, "a wrong cell, and no other one", head+"\x0d", api.ErrForm)
	refused(t, "a wrong cell, and a short one", head+"\xfe\x05ab", api.ErrForm)
	refused(t, "a wrong cell, and no Blob", head+"\x0d\xff", api.ErrForm)
	refused(t, "a wrong cell, and a short Blob", head+"\x0d\xff\x09\x00\x00\x00x", api.ErrForm)
	refused(t, "a short cell with wrong bytes", head+"\x05\x0d\x0d\x0d\x0d", api.ErrShort)
	refused(t, "a short cell, the longest one", head+"\x0c\x0d\xfe\x0d\xfe\x0d\xfe\x0d\xfe\x0d\xfe\x0d", api.ErrShort)
	refused(t, "a cell, and a wrong one", head+"\x02\x0d\x0d\x0d", api.ErrForm)
	refused(t, "a wrong second cell, and a short Blob", head+"\xff\xfe\x09\x00\x00\x00x", api.ErrForm)
	refused(t, "a short second cell with wrong bytes", head+"\xff\x03\x0d\xfe", api.ErrShort)
}

// P5.2: a wrong byte of a cell, and an end that is too early, come before an entry that is not valid.
func TestDecodeFormBeforeEntry(t *testing.T) {
	for _, wrong := range []int{-1, 0, 9, 255} {
		e := base(api.EntryChange)
		e.Kind, e.LSN, e.Change.Page = wrong, -1, 1<<32-1
		head := string(bytesOf(e))[:beforeAt]
		refused(t, "whole", string(bytesOf(e)), api.ErrEntry)
		refused(t, "the first cell", head+"\x0d\xff\x00\x00\x00\x00", api.ErrForm)
		refused(t, "the second cell", head+"\xff\x0d\x00\x00\x00\x00", api.ErrForm)
		refused(t, "a short number", head+"\xff\xff\x00\x00\x00", api.ErrShort)
		refused(t, "a short Blob", head+"\xff\xff\x02\x00\x00\x00x", api.ErrShort)
	}
}

// P5.2: bytes that follow a valid entry.
func TestDecodeFollowed(t *testing.T) {
	for _, e := range samples() {
		s := string(bytesOf(e))
		for _, more := range []string{"\x00", "\xff", "x", s, filled(maxBlob)} {
			refused(t, "followed", s+more, api.ErrForm)
		}
	}
}

// decodeModel is what Decode has to return, found with the bytes alone.
func decodeModel(s string) (api.Entry, api.Errno) {
	var e api.Entry
	cut := func(size int) string {
		taken := s[:size]
		s = s[size:]
		return taken
	}
	if len(s) < beforeAt {
		return e, api.ErrShort
	}
	order := binary.LittleEndian
	b := []byte(cut(beforeAt))
	e.LSN, e.Kind, e.Tx = int(order.Uint64(b)), int(b[8]), int(order.Uint32(b[9:]))
	e.PrevTx, e.PrevPage, e.Ref = int(order.Uint64(b[13:])), int(order.Uint64(b[21:])), int(order.Uint64(b[29:]))
	e.Change.Page, e.Change.Slot = int(order.Uint32(b[37:])), int(b[41])
	for _, c := range []*api.Cell{&e.Change.Before, &e.Change.After} {
		if len(s) < 1 {
			return api.Entry{}, api.ErrShort
		}
		size := int(cut(1)[0])
		switch {
		case size == 255:
		case size > 12:
			return api.Entry{}, api.ErrForm
		case size > len(s):
			return api.Entry{}, api.ErrShort
		default:
			*c = set(cut(size))
		}
	}
	if len(s) < 4 {
		return api.Entry{}, api.ErrShort
	}
	size := int(order.Uint32([]byte(cut(4))))
	if size > len(s) {
		return api.Entry{}, api.ErrShort
	}
	e.Blob = cut(size)
	if s != "" {
		return api.Entry{}, api.ErrForm
	}
	if !validModel(e) {
		return api.Entry{}, api.ErrEntry
	}
	return e, api.OK
}

// agrees checks Decode against the model, and that the bytes of an entry are the only ones.
func agrees(t *testing.T, s string) {
	t.Helper()
	e, code := entry.Decode(s)
	if want, wantCode := decodeModel(s); e != want || code != wantCode {
		t.Fatalf("Decode of %.300q: error %d, want %d, %.300q, want %.300q", s, code, wantCode, show(e), show(want))
	}
	if code != api.OK {
		return
	}
	if again, code := entry.Encode(e); again != s || code != api.OK {
		t.Fatalf("Encode of what was decoded: %.300q, error %d, want %.300q", again, code, s)
	}
}

// P5.2: bytes in which any one byte is any other one.
func TestDecodeChanged(t *testing.T) {
	for _, e := range samples() {
		s := bytesOf(e)
		if len(s) > 120 {
			continue
		}
		for at := range s {
			for b := range 256 {
				changed := slices.Clone(s)
				changed[at] = byte(b)
				agrees(t, string(changed))
			}
		}
	}
}

// P5.2: bytes that are changed, cut and prolonged in several places at random.
func TestDecodeRandom(t *testing.T) {
	random := rand.New(rand.NewSource(52))
	all := append(samples(), notValid()...)
	for range 100000 {
		s := bytesOf(all[random.Intn(len(all))])
		for range 1 + random.Intn(3) {
			at := random.Intn(min(len(s), 80))
			switch random.Intn(4) {
			case 0:
				s[at] = byte(random.Intn(256))
			case 1:
				s[at] = byte(random.Intn(14))
			case 2:
				s = slices.Insert(s, at, byte(random.Intn(14)))
			case 3:
				s = slices.Delete(s, at, min(at+1+random.Intn(2), len(s)))
			}
			if len(s) == 0 {
				break
			}
		}
		agrees(t, string(s))
	}
}

// P5.2: bytes of every length that mean nothing.
func TestDecodeNonsense(t *testing.T) {
	for size := range 100 {
		for _, s := range []string{strings.Repeat("\x00", size), strings.Repeat("\xff", size), strings.Repeat("\x0d", size), strings.Repeat("\x0c", size)} {
			agrees(t, s)
		}
	}
	refused(t, "nothing", "", api.ErrShort)
}

// show is an entry as text, for messages.
func show(e api.Entry) string { return fmt.Sprintf("%+v", e) }
