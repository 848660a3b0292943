package journal_test

import (
	"encoding/binary"
	"fmt"
	"hash/crc32"
	"math"
	"math/rand"
	"slices"
	"strings"
	"testing"

	"pagemend/api"
	"pagemend/entry"
	"pagemend/journal"
)

const (
	maxLSN     = 1 << 40
	maxEntries = 4096
	headSize   = 20 // bytes of the head
)

func set(data string) api.Cell { return api.Cell{Set: true, Data: data} }

func note(lsn int, blob string) api.Entry {
	return api.Entry{LSN: lsn, Kind: api.EntryNote, Blob: blob}
}

// kindly is a valid entry with this number; the kinds follow each other with the numbers. The number 1 is of a kind that needs no entry before it.
func kindly(lsn int) api.Entry {
	e := api.Entry{LSN: lsn, Kind: lsn%8 + 1}
	if lsn == 1 {
		e.Kind = api.EntryChange
	}
	switch e.Kind {
	case api.EntryChange:
		e.Tx, e.PrevTx, e.PrevPage = 7, lsn-1, lsn/2
		e.Change = api.Change{Page: lsn % 64, Slot: lsn % 16, After: set(fmt.Sprint(lsn % 1000))}
	case api.EntryUndo:
		e.Tx, e.PrevTx, e.PrevPage, e.Ref = 7, lsn-1, lsn-1, 1
		e.Change = api.Change{Page: lsn % 64, Slot: lsn % 16, Before: set("ab"), After: set("")}
	case api.EntryCommit, api.EntryAbort, api.EntryEnd:
		e.Tx, e.PrevTx = 1<<30, lsn-1
	case api.EntryCheckpoint, api.EntryNote:
		e.Blob = strings.Repeat("b", lsn%100)
	case api.EntryIndex:
		e.Change.Page, e.Ref = 63, lsn-1
	}
	return e
}

// logOf is a log of entries of all kinds, the last one with the number last.
func logOf(first, last, durable int) api.Log {
	l := api.Log{First: first, Durable: durable}
	for lsn := first; lsn <= last; lsn++ {
		l.Entries = append(l.Entries, kindly(lsn))
	}
	return l
}

// valids are logs that are valid, with no entries, one, some, and as many as there may be, and each end of Durable.
func valids() []api.Log {
	return []api.Log{
		{First: 1},
		{First: 2, Durable: 1},
		{First: maxLSN, Durable: maxLSN - 1},
		logOf(1, 1, 0),
		logOf(1, 1, 1),
		logOf(maxLSN, maxLSN, maxLSN-1),
		logOf(maxLSN, maxLSN, maxLSN),
		logOf(1, 9, 0),
		logOf(1, 9, 5),
		logOf(1, 9, 9),
		logOf(50, 66, 49),
		logOf(50, 66, 50),
		logOf(50, 66, 60),
		logOf(50, 66, 66),
		logOf(maxLSN-3, maxLSN, maxLSN-4),
		logOf(maxLSN-3, maxLSN, maxLSN-2),
		logOf(maxLSN-3, maxLSN-1, maxLSN-1),
		logOf(1, maxEntries-1, 17),
		logOf(1, maxEntries, maxEntries),
		logOf(9, maxEntries+8, 8),
		logOf(maxLSN-maxEntries+1, maxLSN, maxLSN-3),
	}
}

// withEntry is l with another entry at the index i.
func withEntry(l api.Log, i int, e api.Entry) api.Log {
	l.Entries = slices.Clone(l.Entries)
	l.Entries[i] = e
	return l
}

func withDurable(l api.Log, durable int) api.Log {
	l.Durable = durable
	return l
}

func withFirst(l api.Log, first int) api.Log {
	l.First = first
	return l
}

// wrongEntries are entries with this number that are not valid.
func wrongEntries(lsn int) []api.Entry {
	return []api.Entry{
		{LSN: lsn},
		{LSN: lsn, Kind: 9},
		{LSN: lsn, Kind: api.EntryNote, Tx: 1},
		{LSN: lsn, Kind: api.EntryNote, Blob: strings.Repeat("b", api.MaxBlob+1)},
		{LSN: lsn, Kind: api.EntryCommit, Tx: 1},
		{LSN: lsn, Kind: api.EntryChange, Tx: 1, PrevTx: lsn},
		{LSN: lsn, Kind: api.EntryChange, Tx: 1, PrevPage: lsn},
		{LSN: lsn, Kind: api.EntryChange, Tx: 1, Change: api.Change{Page: 64}},
		{LSN: lsn, Kind: api.EntryIndex, Ref: lsn},
	}
}

// invalids are logs that are not valid, in each of the ways.
func invalids() []api.Log {
	all := []api.Log{
		{},
		{Durable: -1},
		{First: maxLSN + 1, Durable: maxLSN},
		logOf(maxLSN, maxLSN+1, maxLSN),
		{First: maxLSN + 1, Durable: maxLSN, Entries: []api.Entry{note(maxLSN+1, "")}},
		{Durable: 0, Entries: []api.Entry{note(0, ""), note(1, "")}},
		{First: -1, Durable: 1, Entries: []api.Entry{note(-1, ""), note(0, ""), note(1, "")}},
		logOf(1, maxEntries+1, 0),
		logOf(1, maxEntries+1, maxEntries+1),
		logOf(7, maxEntries+7, 9),
	}
	for _, first := range []int{math.MinInt, math.MinInt + 1, -2, -1, 0, maxLSN + 1, 1 << 62, math.MaxInt - 1, math.MaxInt} {
		all = append(all, withFirst(logOf(1, 3, 2), first), api.Log{First: first, Durable: first - 1}, api.Log{First: first, Durable: first}, api.Log{First: first})
	}
	for _, l := range []api.Log{{First: 1}, {First: 9, Durable: 8}, logOf(1, 1, 1), logOf(1, 3, 2), logOf(50, 66, 60), {First: maxLSN, Durable: maxLSN - 1}} {
		last := l.First + len(l.Entries) - 1
		for _, durable := range []int{math.MinInt, -1, l.First - 3, l.First - 2, last + 1, last + 2, math.MaxInt} {
			all = append(all, withDurable(l, durable))
		}
	}
	l := logOf(50, 66, 60)
	for _, i := range []int{0, 1, 8, 15, 16} {
		lsn := 50 + i
		for _, other := range []int{math.MinInt, -1, 0, 1, lsn - 1, lsn + 1, 67, maxLSN + 1, math.MaxInt} {
			all = append(all, withEntry(l, i, note(other, "x")))
		}
		for _, e := range wrongEntries(lsn) {
			all = append(all, withEntry(l, i, e))
		}
		gap, twice := l, l
		gap.Entries = slices.Delete(slices.Clone(l.Entries), i, i+1)
		twice.Entries = slices.Insert(slices.Clone(l.Entries), i, l.Entries[i])
		if i < 16 { // without its last entry, the log is valid
			all = append(all, gap)
		}
		all = append(all, twice)
	}
	return append(all, withFirst(l, 49), withFirst(l, 51), withDurable(withFirst(l, 49), 48), withFirst(l, 1))
}

// show tells a log in short.
func show(l api.Log) string {
	s := []string{}
	for _, e := range l.Entries[:min(len(l.Entries), 20)] {
		s = append(s, fmt.Sprintf("%d:%d", e.LSN, e.Kind))
	}
	return fmt.Sprintf("{First %d, Durable %d, %d entries: %v}", l.First, l.Durable, len(l.Entries), s)
}

// same reports whether a and b are equal; lists without elements are (R3).
func same(a, b api.Log) bool {
	return a.First == b.First && a.Durable == b.Durable && slices.Equal(a.Entries, b.Entries)
}

// kept calls do with l in new memory with spare capacity, and checks that this memory stays (R2).
func kept(t *testing.T, l api.Log, do func(api.Log)) {
	t.Helper()
	long := append(slices.Clone(l.Entries), note(-7, "spare"), note(-8, "spare"), note(-9, "spare"))
	before := slices.Clone(long)
	l.Entries = long[:len(l.Entries)]
	do(l)
	if !slices.Equal(long, before) {
		t.Errorf("the argument was changed: %s", show(l))
	}
}

// changes calls a function that changes l. It checks that the argument stays, and that the result is valid, or zero with an error.
func changes(t *testing.T, l api.Log, do func(api.Log) (api.Log, api.Errno)) (got api.Log, e api.Errno) {
	t.Helper()
	kept(t, l, func(given api.Log) { got, e = do(given) })
	switch {
	case e != api.OK && !same(got, api.Log{}):
		t.Errorf("with the error %d: %s", e, show(got))
	case e == api.OK && !journal.Valid(got):
		t.Errorf("the result is not valid: %s", show(got))
	}
	return got, e
}

func appended(t *testing.T, l api.Log, x api.Entry) (got api.Log, lsn int, e api.Errno) {
	t.Helper()
	got, e = changes(t, l, func(l api.Log) (changed api.Log, code api.Errno) {
		changed, lsn, code = journal.Append(l, x)
		return changed, code
	})
	if e != api.OK && lsn != 0 {
		t.Errorf("with the error %d: the number %d", e, lsn)
	}
	return got, lsn, e
}

func forced(t *testing.T, l api.Log, lsn int) (api.Log, api.Errno) {
	t.Helper()
	return changes(t, l, func(l api.Log) (api.Log, api.Errno) { return journal.Force(l, lsn) })
}

func cut(t *testing.T, l api.Log, first int) (api.Log, api.Errno) {
	t.Helper()
	return changes(t, l, func(l api.Log) (api.Log, api.Errno) { return journal.Cut(l, first) })
}

func get(t *testing.T, l api.Log, lsn int) (x api.Entry, e api.Errno) {
	t.Helper()
	kept(t, l, func(l api.Log) { x, e = journal.Get(l, lsn) })
	if e != api.OK && x != (api.Entry{}) {
		t.Errorf("with the error %d: %v", e, x)
	}
	return x, e
}

func bytesOf(t *testing.T, l api.Log) (s string) {
	t.Helper()
	kept(t, l, func(l api.Log) { s = journal.Bytes(l) })
	return s
}

func crash(t *testing.T, l api.Log, torn int) (s string) {
	t.Helper()
	kept(t, l, func(l api.Log) { s = journal.Crash(l, torn) })
	return s
}

// open is journal.Open; it checks that the log is valid and durable, or zero with an error.
func open(t *testing.T, s string) (api.Log, api.Errno) {
	t.Helper()
	l, e := journal.Open(s)
	switch {
	case e != api.OK && !same(l, api.Log{}):
		t.Errorf("with the error %d: %s", e, show(l))
	case e == api.OK && (!journal.Valid(l) || l.Durable != journal.Last(l)):
		t.Errorf("opened: %s", show(l))
	}
	return l, e
}

// refused checks that s is no log.
func refused(t *testing.T, name, s string) {
	t.Helper()
	if l, e := open(t, s); e != api.ErrForm {
		t.Errorf("%s: error %d, %s", name, e, show(l))
	}
}

// opens checks that the log that s begins with has this First and these entries.
func opens(t *testing.T, name, s string, first int, entries []api.Entry) {
	t.Helper()
	want := api.Log{First: first, Entries: entries, Durable: first + len(entries) - 1}
	if l, e := open(t, s); e != api.OK || !same(l, want) {
		t.Errorf("%s: error %d, %s, want %s", name, e, show(l), show(want))
	}
}

// framed is the frame of a payload, laid out without package codec.
func framed(payload string) string {
	b := binary.LittleEndian.AppendUint32(nil, uint32(len(payload)))
	b = append(b, payload...)
	return string(binary.LittleEndian.AppendUint32(b, crc32.Checksum(b, crc32.MakeTable(crc32.Castagnoli))))
}

func headPayload(first int) string {
	return string(binary.LittleEndian.AppendUint64([]byte("PMLG"), uint64(first)))
}

// headed is the head of a log.
func headed(first int) string { return framed(headPayload(first)) }

// payload is the bytes of an entry, valid or not, laid out without package entry.
func payload(e api.Entry) string {
	order := binary.LittleEndian
	b := order.AppendUint64(nil, uint64(e.LSN))
	b = append(b, byte(e.Kind))
	b = order.AppendUint32(b, uint32(e.Tx))
	b = order.AppendUint64(b, uint64(e.PrevTx))
	b = order.AppendUint64(b, uint64(e.PrevPage))
	b = order.AppendUint64(b, uint64(e.Ref))
	b = order.AppendUint32(b, uint32(e.Change.Page))
	b = append(b, byte(e.Change.Slot))
	for _, c := range []api.Cell{e.Change.Before, e.Change.After} {
		if !c.Set {
			b = append(b, 255)
			continue
		}
		b = append(b, byte(len(c.Data)))
		b = append(b, c.Data...)
	}
	b = order.AppendUint32(b, uint32(len(e.Blob)))
	return string(append(b, e.Blob...))
}

// listed is the frames of entries.
func listed(entries []api.Entry) string {
	var b strings.Builder
	for _, e := range entries {
		b.WriteString(framed(payload(e)))
	}
	return b.String()
}

// modelValid is the definition of a valid log.
func modelValid(l api.Log) bool {
	if l.First < 1 || l.First > maxLSN || len(l.Entries) > maxEntries {
		return false
	}
	next := l.First
	for _, e := range l.Entries {
		if e.LSN != next || !entry.Valid(e) {
			return false
		}
		next++
	}
	return l.Durable >= l.First-1 && l.Durable < next
}

// split is the durable entries of a valid log, and the others.
func split(l api.Log) (durable, others []api.Entry) {
	for _, e := range l.Entries {
		if e.LSN <= l.Durable {
			durable = append(durable, e)
		} else {
			others = append(others, e)
		}
	}
	return durable, others
}

// P6.1: a new log has the first number 1, no entries, and nothing durable.
func TestNew(t *testing.T) {
	l := journal.New()
	if l.First != 1 || len(l.Entries) != 0 || l.Durable != 0 {
		t.Errorf("New: %s", show(l))
	}
	if !journal.Valid(l) || journal.Last(l) != 0 {
		t.Errorf("New is not valid, or its last number is %d", journal.Last(l))
	}
}

// P6.1: logs that are valid, and the numbers of their last entries; those that are not valid.
func TestValidAndLast(t *testing.T) {
	for _, l := range valids() {
		last := l.First - 1
		for _, e := range l.Entries {
			last = e.LSN
		}
		kept(t, l, func(l api.Log) {
			if !journal.Valid(l) || journal.Last(l) != last {
				t.Errorf("valid %v, last number %d, want %d: %s", journal.Valid(l), journal.Last(l), last, show(l))
			}
		})
	}
	for _, l := range invalids() {
		kept(t, l, func(l api.Log) {
			if journal.Valid(l) || journal.Last(l) != 0 {
				t.Errorf("valid %v, last number %d: %s", journal.Valid(l), journal.Last(l), show(l))
			}
		})
	}
}

// P6.1: the limits of First, of the number of entries, and of Durable.
func TestValidLimits(t *testing.T) {
	for _, c := range []struct {
		l    api.Log
		want bool
	}{
		{api.Log{First: 0, Durable: -1}, false},
		{api.Log{First: 1, Durable: 0}, true},
		{api.Log{First: maxLSN, Durable: maxLSN - 1}, true},
		{api.Log{First: maxLSN + 1, Durable: maxLSN}, false},
		{logOf(1, maxEntries, 0), true},
		{logOf(1, maxEntries+1, 0), false},
		{logOf(5, 7, 3), false},
		{logOf(5, 7, 4), true},
		{logOf(5, 7, 7), true},
		{logOf(5, 7, 8), false},
		{logOf(maxLSN-1, maxLSN, maxLSN), true},
		{logOf(maxLSN-1, maxLSN+1, maxLSN), false},
	} {
		if journal.Valid(c.l) != c.want {
			t.Errorf("Valid is not %v: %s", c.want, show(c.l))
		}
	}
}

// P6.1: a log without entries has no entries, whether they are nil or an empty list (R3).
func TestNil(t *testing.T) {
	for _, entries := range [][]api.Entry{nil, {}, make([]api.Entry, 0, 4)} {
		l := api.Log{First: 3, Entries: entries, Durable: 2}
		if !journal.Valid(l) || journal.Last(l) != 2 || journal.Bytes(l) != headed(3) || journal.Crash(l, 5) != headed(3) {
			t.Errorf("%#v is not a log without entries", entries)
		}
		if got, lsn, e := appended(t, l, note(0, "x")); e != api.OK || lsn != 3 || len(got.Entries) != 1 {
			t.Errorf("%#v: Append: error %d, number %d", entries, e, lsn)
		}
		if got, e := cut(t, l, 3); e != api.OK || !same(got, l) {
			t.Errorf("%#v: Cut: error %d, %s", entries, e, show(got))
		}
	}
}

// P6.2: an entry gets the next number, whatever number it brings along, and stands behind the others; Durable stays.
func TestAppend(t *testing.T) {
	for _, l := range valids() {
		next := l.First + len(l.Entries)
		if len(l.Entries) == maxEntries || next > maxLSN {
			continue
		}
		for _, brought := range []int{0, next, 1, -5, next - 1, next + 1, maxLSN, maxLSN + 1, math.MinInt, math.MaxInt} {
			x := kindly(next)
			x.LSN = brought
			got, lsn, e := appended(t, l, x)
			want := api.Log{First: l.First, Entries: append(slices.Clone(l.Entries), kindly(next)), Durable: l.Durable}
			if e != api.OK || lsn != next || !same(got, want) {
				t.Errorf("Append to %s: error %d, number %d, %s", show(l), e, lsn, show(got))
			}
		}
	}
}

// P6.2: an entry that is valid only with the number that it gets, and one that is valid only with the number that it brings along.
func TestAppendNumber(t *testing.T) {
	l := logOf(50, 66, 60)
	for _, c := range []struct {
		name string
		e    api.Entry
		want api.Errno
	}{
		{"without a number", api.Entry{Kind: api.EntryCommit, Tx: 3, PrevTx: 66}, api.OK},
		{"with a number before its PrevTx", api.Entry{LSN: 40, Kind: api.EntryCommit, Tx: 3, PrevTx: 66}, api.OK},
		{"with a number above all", api.Entry{LSN: maxLSN + 1, Kind: api.EntryNote}, api.OK},
		{"PrevTx is its number", api.Entry{Kind: api.EntryCommit, Tx: 3, PrevTx: 67}, api.ErrEntry},
		{"PrevTx is above its number, not above the one it brings", api.Entry{LSN: 90, Kind: api.EntryCommit, Tx: 3, PrevTx: 67}, api.ErrEntry},
		{"PrevPage", api.Entry{LSN: 90, Kind: api.EntryChange, Tx: 3, PrevPage: 66}, api.OK},
		{"PrevPage is its number", api.Entry{LSN: 90, Kind: api.EntryChange, Tx: 3, PrevPage: 67}, api.ErrEntry},
		{"Ref", api.Entry{LSN: 90, Kind: api.EntryIndex, Ref: 66}, api.OK},
		{"Ref is its number", api.Entry{LSN: 90, Kind: api.EntryIndex, Ref: 67}, api.ErrEntry},
	} {
		got, lsn, e := appended(t, l, c.e)
		if e != c.want {
			t.Errorf("%s: error %d, want %d", c.name, e, c.want)
		}
		if c.want == api.OK && (lsn != 67 || len(got.Entries) != 18 || got.Entries[17].LSN != 67) {
			t.Errorf("%s: number %d, %s", c.name, lsn, show(got))
		}
	}
}

// P6.2: the first number of a log can be the number of its first entry alone, and such an entry has none before it.
func TestAppendFirst(t *testing.T) {
	for _, first := range []int{1, 2, 50, maxLSN} {
		l := api.Log{First: first, Durable: first - 1}
		got, lsn, e := appended(t, l, note(0, "x"))
		if e != api.OK || lsn != first || !same(got, api.Log{First: first, Entries: []api.Entry{note(first, "x")}, Durable: first - 1}) {
			t.Errorf("First %d: error %d, number %d, %s", first, e, lsn, show(got))
		}
		if _, _, e := appended(t, l, api.Entry{Kind: api.EntryIndex, Ref: first}); e != api.ErrEntry {
			t.Errorf("First %d, Ref of what will come: error %d", first, e)
		}
	}
}

// P6.2: an entry that is not valid.
func TestAppendWrong(t *testing.T) {
	for _, l := range []api.Log{{First: 1}, logOf(1, 9, 3), logOf(50, 66, 66), logOf(1, maxEntries-1, 0), logOf(maxLSN-3, maxLSN-1, maxLSN-1)} {
		next := l.First + len(l.Entries)
		for _, x := range wrongEntries(next) {
			for _, brought := range []int{next, 0, maxLSN} {
				x.LSN = brought
				if _, _, e := appended(t, l, x); e != api.ErrEntry {
					t.Errorf("Append to %s: error %d", show(l), e)
				}
			}
		}
	}
}

// P6.2: a log with as many entries as there may be, and one whose next number would be too great: also before an entry that is not valid.
func TestAppendLimit(t *testing.T) {
	for _, l := range []api.Log{
		logOf(1, maxEntries, 0),
		logOf(9, maxEntries+8, maxEntries+8),
		logOf(maxLSN-maxEntries+1, maxLSN, maxLSN),
		logOf(maxLSN-maxEntries, maxLSN-1, maxLSN-1),
		logOf(maxLSN, maxLSN, maxLSN),
		logOf(maxLSN-3, maxLSN, maxLSN-4),
	} {
		for _, x := range append(wrongEntries(maxLSN+1), note(0, ""), note(1, ""), note(maxLSN, ""), note(maxLSN+1, "")) {
			if got, lsn, e := appended(t, l, x); e != api.ErrLimit {
				t.Errorf("Append to %s: error %d, number %d, %s", show(l), e, lsn, show(got))
			}
		}
	}
	for _, l := range []api.Log{logOf(1, maxEntries-1, 0), logOf(maxLSN-maxEntries+1, maxLSN-1, maxLSN-1), {First: maxLSN, Durable: maxLSN - 1}} {
		got, lsn, e := appended(t, l, note(0, "last"))
		if e != api.OK || lsn != l.First+len(l.Entries) {
			t.Errorf("the last one: error %d, number %d", e, lsn)
		}
		if _, _, e := appended(t, got, note(0, "one more")); e != api.ErrLimit {
			t.Errorf("one more: error %d", e)
		}
	}
}

// P6.2 and R2: two logs that are made of one do not disturb each other.
func TestAppendTwice(t *testing.T) {
	l := api.Log{First: 4, Durable: 3}
	for range 40 {
		a, _, _ := appended(t, l, note(0, "a"))
		b, _, _ := appended(t, l, note(0, "b"))
		last := len(l.Entries)
		if a.Entries[last].Blob != "a" || b.Entries[last].Blob != "b" || !slices.Equal(a.Entries[:last], b.Entries[:last]) {
			t.Fatalf("behind %d entries: %s and %s", last, show(a), show(b))
		}
		l = b
	}
}

// P6.3: entries up to a number are durable; Durable never becomes less.
func TestForce(t *testing.T) {
	l := logOf(50, 66, 60)
	for _, c := range []struct {
		lsn, want int
		err       api.Errno
	}{
		{math.MinInt, 60, api.OK}, {-1, 60, api.OK}, {0, 60, api.OK}, {1, 60, api.OK},
		{49, 60, api.OK}, {50, 60, api.OK}, {59, 60, api.OK}, {60, 60, api.OK},
		{61, 61, api.OK}, {65, 65, api.OK}, {66, 66, api.OK},
		{67, 0, api.ErrGone}, {68, 0, api.ErrGone}, {maxLSN, 0, api.ErrGone}, {maxLSN + 1, 0, api.ErrGone}, {math.MaxInt, 0, api.ErrGone},
	} {
		got, e := forced(t, l, c.lsn)
		if e != c.err || got.Durable != c.want || e == api.OK && !same(got, withDurable(l, c.want)) {
			t.Errorf("Force(%d): error %d, %s", c.lsn, e, show(got))
		}
	}
}

// P6.3: for each log, around each of its numbers.
func TestForceAll(t *testing.T) {
	for _, l := range valids() {
		last := l.First + len(l.Entries) - 1
		for _, lsn := range []int{math.MinInt, -1, 0, l.First - 2, l.First - 1, l.First, l.Durable - 1, l.Durable, l.Durable + 1, last - 1, last, last + 1, last + 2, math.MaxInt} {
			want, code := withDurable(l, max(l.Durable, lsn)), api.OK
			if lsn > last {
				want, code = api.Log{}, api.ErrGone
			}
			if got, e := forced(t, l, lsn); e != code || !same(got, want) {
				t.Errorf("Force(%d) of %s: error %d, %s", lsn, show(l), e, show(got))
			}
		}
	}
}

// P6.4: each entry of each log, and the numbers beside them.
func TestGet(t *testing.T) {
	for _, l := range valids() {
		step := 1 + len(l.Entries)/40
		for i := 0; i < len(l.Entries); i += step {
			if x, e := get(t, l, l.First+i); e != api.OK || x != l.Entries[i] {
				t.Errorf("Get(%d) of %s: error %d, %v", l.First+i, show(l), e, x)
			}
		}
		last := l.First + len(l.Entries) - 1
		for _, lsn := range []int{math.MinInt, -1, 0, l.First - 2, l.First - 1, last + 1, last + 2, last + maxEntries, maxLSN + 1, math.MaxInt} {
			if x, e := get(t, l, lsn); e != api.ErrGone {
				t.Errorf("Get(%d) of %s: error %d, %v", lsn, show(l), e, x)
			}
		}
		if len(l.Entries) > 0 {
			if x, e := get(t, l, last); e != api.OK || x != kindly(last) {
				t.Errorf("Get(%d) of %s: error %d, %v", last, show(l), e, x)
			}
		}
	}
}

// P6.5: the bytes of logs are the head and one frame for each entry, durable or not.
func TestBytes(t *testing.T) {
	for _, l := range valids() {
		if got, want := bytesOf(t, l), headed(l.First)+listed(l.Entries); got != want {
			t.Errorf("Bytes of %s: %d bytes, want %d", show(l), len(got), len(want))
		}
	}
}

// P6.5: the bytes of one log, each written out.
func TestBytesWritten(t *testing.T) {
	l := api.Log{First: 0x0102, Entries: []api.Entry{note(0x0102, "ab")}, Durable: 0x0101}
	body := "PMLG" + "\x02\x01\x00\x00\x00\x00\x00\x00"
	noted := "\x02\x01\x00\x00\x00\x00\x00\x00" + "\x08" + strings.Repeat("\x00", 4+8+8+8+4+1) + "\xff\xff" + "\x02\x00\x00\x00ab"
	want := "\x0c\x00\x00\x00" + body + sumOf("\x0c\x00\x00\x00"+body) + "\x32\x00\x00\x00" + noted + sumOf("\x32\x00\x00\x00"+noted)
	if got := bytesOf(t, l); got != want {
		t.Errorf("%q, want %q", got, want)
	}
	if got := crash(t, l, 0); got != want[:headSize] {
		t.Errorf("Crash: %q, want %q", got, want[:headSize])
	}
}

// sumOf is the checksum of s, the lowest byte first.
func sumOf(s string) string {
	return string(binary.LittleEndian.AppendUint32(nil, crc32.Checksum([]byte(s), crc32.MakeTable(crc32.Castagnoli))))
}

// P6.5: entries with the longest Blob.
func TestBytesLong(t *testing.T) {
	blob := strings.Repeat("long", api.MaxBlob/4)
	l := api.Log{First: 9, Entries: []api.Entry{note(9, blob), note(10, ""), note(11, blob)}, Durable: 9}
	s := bytesOf(t, l)
	if s != headed(9)+listed(l.Entries) {
		t.Errorf("%d bytes", len(s))
	}
	opens(t, "long", s, 9, l.Entries)
}

// P6.5: what a crash leaves: all that is durable, and of the other bytes the first ones.
func TestCrash(t *testing.T) {
	for _, l := range valids() {
		durable, others := split(l)
		safe, rest := headed(l.First)+listed(durable), listed(others)
		one := 0 // bytes of the first frame that is not durable
		if len(others) > 0 {
			one = len(listed(others[:1]))
		}
		for _, torn := range []int{math.MinInt, -100, -2, -1, 0, 1, 2, one / 2, one - 1, one, one + 1, one + 4, len(rest) / 2, len(rest) - 1, len(rest), len(rest) + 1, len(rest) + 999, math.MaxInt} {
			want := safe + rest[:max(0, min(torn, len(rest)))]
			if got := crash(t, l, torn); got != want {
				t.Errorf("Crash(%d) of %s: %d bytes, want %d", torn, show(l), len(got), len(want))
			}
		}
	}
}

// P6.5, P6.6 and its consequence: behind a crash at each byte, the log has all durable entries, and those of the others that are whole.
func TestCrashEverywhere(t *testing.T) {
	for _, l := range []api.Log{logOf(50, 56, 49), logOf(50, 56, 52), logOf(50, 56, 56), logOf(1, 3, 0), {First: 7, Durable: 6}} {
		durable, others := split(l)
		size := len(listed(others))
		for torn := -2; torn <= size+2; torn++ {
			count := len(durable)
			for i := range others {
				if len(listed(others[:i+1])) <= torn {
					count++
				}
			}
			opens(t, fmt.Sprintf("Crash(%d) of %s", torn, show(l)), crash(t, l, torn), l.First, l.Entries[:count])
		}
	}
}

// P6.6 and its consequence: the bytes of a log are the log again, with everything durable.
func TestOpenBytes(t *testing.T) {
	for _, l := range valids() {
		opens(t, show(l), bytesOf(t, l), l.First, l.Entries)
	}
}

// three is a log of three entries, which have frames of different lengths.
func three() api.Log { return logOf(50, 52, 50) }

// P6.6: a head that is cut short at each place, and an empty text.
func TestOpenShort(t *testing.T) {
	s := journal.Bytes(three())
	refused(t, "an empty text", "")
	for size := range headSize {
		refused(t, fmt.Sprintf("the first %d bytes", size), s[:size])
		refused(t, fmt.Sprintf("the first %d bytes of a head alone", size), headed(1)[:size])
		refused(t, fmt.Sprintf("%d bytes left out", headSize-size), s[:size]+s[headSize:])
	}
	opens(t, "a head alone", s[:headSize], 50, nil)
}

// P6.6: a head with one byte changed at each place, in each way.
func TestOpenChangedHead(t *testing.T) {
	for _, s := range []string{headed(1), journal.Bytes(three())} {
		for at := range headSize {
			for mask := 1; mask < 256; mask++ {
				b := []byte(s)
				b[at] ^= byte(mask)
				refused(t, fmt.Sprintf("the byte %d changed by %d", at, mask), string(b))
			}
		}
	}
}

// P6.6: whole frames that are no head.
func TestOpenHead(t *testing.T) {
	rest := listed(three().Entries)
	good := headPayload(50)
	for name, p := range map[string]string{
		"an empty payload":       "",
		"a magic alone":          "PMLG",
		"First too short":        good[:11],
		"First too short by 4":   good[:8],
		"First too long":         good + "\x00",
		"First too long by 8":    good + good[4:],
		"another first letter":   "pMLG" + good[4:],
		"another second letter":  "PmLG" + good[4:],
		"another third letter":   "PMlG" + good[4:],
		"another last letter":    "PMLH" + good[4:],
		"no magic":               good[4:],
		"a magic behind":         good[4:] + "PMLG",
		"a magic one byte later": "\x00PMLG" + good[5:],
		"an entry":               payload(three().Entries[0]),
	} {
		refused(t, name, framed(p)+rest)
		refused(t, name+" alone", framed(p))
	}
	refused(t, "no frame", good+rest)
	refused(t, "no frame alone", good)
	refused(t, "a byte before the head", "\x00"+headed(50)+rest)
	refused(t, "another frame before the head", framed("")+headed(50)+rest)
}

// P6.6: the limits of First.
func TestOpenFirst(t *testing.T) {
	for _, first := range []int{math.MinInt, math.MinInt + 1, -maxLSN, -1, 0, maxLSN + 1, maxLSN + 2, 1 << 41, 1 << 62, math.MaxInt} {
		refused(t, fmt.Sprintf("First %d", first), headed(first))
		refused(t, fmt.Sprintf("First %d with an entry", first), headed(first)+listed([]api.Entry{note(first, "")}))
	}
	for _, first := range []int{1, 2, 255, 256, 1 << 32, maxLSN - 1, maxLSN} {
		opens(t, fmt.Sprintf("First %d", first), headed(first), first, nil)
		one := []api.Entry{note(first, "x")}
		opens(t, fmt.Sprintf("First %d with an entry", first), headed(first)+listed(one), first, one)
	}
	opens(t, "a number that is too great", headed(maxLSN)+listed([]api.Entry{note(maxLSN, ""), note(maxLSN+1, "")}), maxLSN, []api.Entry{note(maxLSN, "")})
}

// P6.6: behind a right head, entries that are cut short at each place: those before are the log.
func TestOpenCut(t *testing.T) {
	l := three()
	s := journal.Bytes(l)
	ends := []int{headSize}
	for i := range l.Entries {
		ends = append(ends, headSize+len(listed(l.Entries[:i+1])))
	}
	for size := headSize; size <= len(s); size++ {
		whole := 0
		for ends[min(whole+1, 3)] <= size && whole < 3 {
			whole++
		}
		opens(t, fmt.Sprintf("%d bytes", size), s[:size], 50, l.Entries[:whole])
		if size >= ends[1] && size < ends[2] { // the second one lacks bytes, the third one follows
			opens(t, fmt.Sprintf("bytes left out from %d on", size), s[:size]+s[ends[2]:], 50, l.Entries[:1])
		}
	}
}

// P6.6: behind a right head, one byte changed at each place of the entries: those before are the log.
func TestOpenChanged(t *testing.T) {
	l := three()
	s := journal.Bytes(l)
	at := headSize
	for i := range l.Entries {
		for range len(listed(l.Entries[i : i+1])) {
			for mask := 1; mask < 256; mask++ {
				b := []byte(s)
				b[at] ^= byte(mask)
				opens(t, fmt.Sprintf("the byte %d changed by %d", at, mask), string(b), 50, l.Entries[:i])
			}
			at++
		}
	}
	if at != len(s) {
		t.Errorf("%d bytes, want %d", len(s), at)
	}
}

// P6.6: whole frames that are not the next entry, at the first, second and third place; right entries follow.
func TestOpenNotNext(t *testing.T) {
	l := three()
	for i := range 4 {
		lsn := 50 + i
		wrong := map[string]string{
			"an empty frame":         framed(""),
			"a frame of one byte":    framed("\x00"),
			"a frame of letters":     framed("these bytes mean nothing at all, and are no entry"),
			"a head":                 headed(lsn),
			"a byte behind an entry": framed(payload(kindly(lsn)) + "\x00"),
			"an entry twice":         framed(payload(kindly(lsn)) + payload(kindly(lsn))),
			"a byte lacks":           framed(payload(kindly(lsn))[:len(payload(kindly(lsn)))-1]),
			"the first number":       framed(payload(note(49, ""))),
			"the number 1":           framed(payload(note(1, ""))),
			"the number before":      framed(payload(note(lsn-1, ""))),
			"the number behind":      framed(payload(note(lsn+1, ""))),
			"a far number":           framed(payload(note(lsn+256, ""))),
			"the greatest number":    framed(payload(note(maxLSN, ""))),
			"the number 0":           framed(payload(note(0, ""))),
			"a negative number":      framed(payload(note(-1, ""))),
			"a frame that is no one": "\xff\xff\xff\xff" + payload(kindly(lsn)),
			"a bare entry":           payload(kindly(lsn)),
			"a byte before a frame":  "\x00" + framed(payload(kindly(lsn))),
		}
		for k, e := range wrongEntries(lsn) {
			wrong[fmt.Sprintf("the wrong entry %d", k)] = framed(payload(e))
		}
		for name, w := range wrong {
			s := headed(50) + listed(l.Entries[:i]) + w
			name = fmt.Sprintf("%s as entry %d", name, i)
			opens(t, name, s, 50, l.Entries[:i])
			opens(t, name+", with the right ones behind", s+listed(logOf(lsn, lsn+3, lsn).Entries), 50, l.Entries[:i])
			opens(t, name+", with the next ones behind", s+listed(logOf(lsn+1, lsn+3, lsn).Entries), 50, l.Entries[:i])
		}
	}
}

// P6.6: bytes that follow are not looked at.
func TestOpenFollow(t *testing.T) {
	for _, l := range []api.Log{{First: 50, Durable: 49}, logOf(50, 50, 50), three()} {
		s := journal.Bytes(l)
		for _, more := range []string{"\x00", "\x00\x00\x00\x00", "x", "PMLG", strings.Repeat("\xff", 300), s, framed("")} {
			opens(t, fmt.Sprintf("%q behind %s", more, show(l)), s+more, 50, l.Entries)
		}
	}
}

// P6.6: no more entries are read than a log may have.
func TestOpenMany(t *testing.T) {
	for _, first := range []int{1, 77, maxLSN - maxEntries, maxLSN - maxEntries + 1} {
		for _, count := range []int{maxEntries - 1, maxEntries, maxEntries + 1, maxEntries + 2} {
			l := logOf(first, first+count-1, first)
			opens(t, fmt.Sprintf("%d entries from %d on", count, first), headed(first)+listed(l.Entries), first, l.Entries[:min(count, maxEntries)])
		}
	}
}

// P6.7: the entries before a number are left out; the others, Durable and their numbers stay.
func TestCut(t *testing.T) {
	l := logOf(50, 66, 60)
	for _, c := range []struct {
		first int
		err   api.Errno
	}{
		{math.MinInt, api.ErrRange}, {-1, api.ErrRange}, {0, api.ErrRange}, {1, api.ErrRange}, {49, api.ErrRange},
		{50, api.OK}, {51, api.OK}, {59, api.OK}, {60, api.OK}, {61, api.OK},
		{62, api.ErrState}, {63, api.ErrState}, {66, api.ErrState}, {67, api.ErrState},
		{68, api.ErrRange}, {maxLSN, api.ErrRange}, {maxLSN + 1, api.ErrRange}, {math.MaxInt, api.ErrRange},
	} {
		got, e := cut(t, l, c.first)
		if e != c.err || e == api.OK && !same(got, logOf(c.first, 66, 60)) {
			t.Errorf("Cut(%d): error %d, %s", c.first, e, show(got))
		}
	}
}

// P6.7: for each log, around each of its numbers.
func TestCutAll(t *testing.T) {
	for _, l := range valids() {
		last := l.First + len(l.Entries) - 1
		for _, first := range []int{math.MinInt, -1, 0, l.First - 2, l.First - 1, l.First, l.First + 1, l.Durable - 1, l.Durable, l.Durable + 1, l.Durable + 2, last, last + 1, last + 2, maxLSN, maxLSN + 1, maxLSN + 2, math.MaxInt} {
			want, code := modelCut(l, first)
			if got, e := cut(t, l, first); e != code || !same(got, want) {
				t.Errorf("Cut(%d) of %s: error %d, %s, want error %d, %s", first, show(l), e, show(got), code, show(want))
			}
		}
	}
}

// modelCut is what Cut makes of a valid log.
func modelCut(l api.Log, first int) (api.Log, api.Errno) {
	last := l.First + len(l.Entries) - 1
	if first < l.First || first > last+1 || first > maxLSN {
		return api.Log{}, api.ErrRange
	}
	rest := api.Log{First: first, Durable: l.Durable}
	for _, e := range l.Entries {
		if e.LSN >= first {
			rest.Entries = append(rest.Entries, e)
		} else if e.LSN > l.Durable {
			return api.Log{}, api.ErrState
		}
	}
	return rest, api.OK
}

// P6.7: a log whose last number is the greatest one cannot be cut to nothing, and goes on with none.
func TestCutEnd(t *testing.T) {
	l := logOf(maxLSN-1, maxLSN, maxLSN)
	if _, e := cut(t, l, maxLSN+1); e != api.ErrRange {
		t.Errorf("behind the greatest number: error %d", e)
	}
	got, e := cut(t, l, maxLSN)
	if e != api.OK || !same(got, logOf(maxLSN, maxLSN, maxLSN)) {
		t.Errorf("at the greatest number: error %d, %s", e, show(got))
	}
	if _, _, e := appended(t, got, note(0, "")); e != api.ErrLimit {
		t.Errorf("one more: error %d", e)
	}
	got, e = cut(t, logOf(maxLSN-1, maxLSN-1, maxLSN-1), maxLSN)
	if e != api.OK || !same(got, api.Log{First: maxLSN, Durable: maxLSN - 1}) {
		t.Errorf("to nothing: error %d, %s", e, show(got))
	}
	got, lsn, e := appended(t, got, note(0, ""))
	if e != api.OK || lsn != maxLSN {
		t.Errorf("the greatest number: error %d, number %d", e, lsn)
	}
	if _, _, e := appended(t, got, note(0, "")); e != api.ErrLimit {
		t.Errorf("above the greatest number: error %d", e)
	}
}

// P6.7 and its consequence: a log that was cut to nothing goes on with the next number, also behind its bytes or a crash.
func TestNumbersGoOn(t *testing.T) {
	l := journal.New()
	given := 0
	for round := range 30 {
		for range round % 4 {
			next, lsn, e := appended(t, l, note(0, "x"))
			if e != api.OK || lsn != given+1 {
				t.Fatalf("round %d: error %d, number %d behind %d", round, e, lsn, given)
			}
			l, given = next, lsn
		}
		l, _ = forced(t, l, given)
		switch round % 3 {
		case 0:
			l, _ = cut(t, l, given+1)
		case 1:
			l, _ = cut(t, l, given+1)
			l, _ = open(t, bytesOf(t, l))
		case 2:
			l, _ = open(t, crash(t, l, 0))
			l, _ = cut(t, l, given+1)
		}
		if len(l.Entries) != 0 || l.First != given+1 || journal.Last(l) != given || l.Durable != given {
			t.Fatalf("round %d, behind %d: %s", round, given, show(l))
		}
	}
}

// P6.7: a log can be cut again and again, and be full again.
func TestCutFull(t *testing.T) {
	l := logOf(1, maxEntries, 3)
	l, e := cut(t, l, 4)
	if e != api.OK || !same(l, logOf(4, maxEntries, 3)) {
		t.Fatalf("error %d, %s", e, show(l))
	}
	for i := range 3 {
		next, lsn, e := appended(t, l, note(0, "more"))
		if e != api.OK || lsn != maxEntries+1+i {
			t.Fatalf("error %d, number %d", e, lsn)
		}
		l = next
	}
	if _, _, e := appended(t, l, note(0, "")); e != api.ErrLimit {
		t.Errorf("a full log: error %d", e)
	}
}

// P6.2 to P6.7: a log that is not valid is refused by each call, before all other errors; it has no bytes.
func TestInvalid(t *testing.T) {
	for _, l := range invalids() {
		numbers := []int{math.MinInt, -1, 0, 1, l.First, l.First + 1, l.Durable, l.Durable + 1, l.Durable + 2, 50, 60, 66, 67, 68, maxLSN, maxLSN + 1, math.MaxInt}
		for _, x := range append(wrongEntries(67), kindly(67), note(0, ""), api.Entry{}) {
			if _, _, e := appended(t, l, x); e != api.ErrLog {
				t.Fatalf("Append to %s: error %d", show(l), e)
			}
		}
		for _, n := range numbers {
			if _, e := forced(t, l, n); e != api.ErrLog {
				t.Errorf("Force(%d) of %s: error %d", n, show(l), e)
			}
			if _, e := get(t, l, n); e != api.ErrLog {
				t.Errorf("Get(%d) of %s: error %d", n, show(l), e)
			}
			if _, e := cut(t, l, n); e != api.ErrLog {
				t.Errorf("Cut(%d) of %s: error %d", n, show(l), e)
			}
			if s := crash(t, l, n); s != "" {
				t.Errorf("Crash(%d) of %s: %d bytes", n, show(l), len(s))
			}
		}
		if s := bytesOf(t, l); s != "" {
			t.Errorf("Bytes of %s: %d bytes", show(l), len(s))
		}
	}
}

// P6.2, P6.3, P6.4 and P6.7: where two errors apply, the first one is returned.
func TestOrder(t *testing.T) {
	full := logOf(1, maxEntries, 9)
	wrong := wrongEntries(maxEntries + 1)[0]
	for _, c := range []struct {
		name string
		l    api.Log
		e    api.Entry
		want api.Errno
	}{
		{"not valid and full", withDurable(full, -1), note(0, ""), api.ErrLog},
		{"not valid and full, with a wrong entry", withDurable(full, maxEntries+1), wrong, api.ErrLog},
		{"not valid, at the greatest number", withDurable(logOf(maxLSN, maxLSN, maxLSN), maxLSN+1), note(0, ""), api.ErrLog},
		{"not valid, with a wrong entry", withDurable(three(), 0), wrong, api.ErrLog},
		{"full, with a wrong entry", full, wrong, api.ErrLimit},
		{"at the greatest number, with a wrong entry", logOf(maxLSN, maxLSN, maxLSN), wrong, api.ErrLimit},
		{"a wrong entry", three(), wrong, api.ErrEntry},
	} {
		if _, _, e := appended(t, c.l, c.e); e != c.want {
			t.Errorf("%s: error %d, want %d", c.name, e, c.want)
		}
	}
	bad := withDurable(three(), 48)
	for name, e := range map[string]api.Errno{
		"Force, gone":        second(forced(t, bad, 53)),
		"Get, gone":          second(get(t, bad, 53)),
		"Cut, out of range":  second(cut(t, bad, 49)),
		"Cut, not durable":   second(cut(t, bad, 53)),
		"Cut, both of these": second(cut(t, bad, 54)),
	} {
		if e != api.ErrLog {
			t.Errorf("%s, of a log that is not valid: error %d", name, e)
		}
	}
	if _, e := cut(t, three(), 54); e != api.ErrRange {
		t.Errorf("Cut out of range, of entries that are not durable: error %d", e)
	}
	if _, e := cut(t, logOf(maxLSN-1, maxLSN, maxLSN-2), maxLSN+1); e != api.ErrRange {
		t.Errorf("Cut behind the greatest number, of entries that are not durable: error %d", e)
	}
}

func second[T any](_ T, e api.Errno) api.Errno { return e }

// Example 1: a new log has the bytes of its head alone: 20.
func TestExample(t *testing.T) {
	s := bytesOf(t, journal.New())
	if len(s) != 20 || s != headed(1) {
		t.Errorf("%d bytes: %q", len(s), s)
	}
	opens(t, "a new log", s, 1, nil)
}

// P6.1: in random logs that are changed in one place or none, against the definition.
func TestValidRandom(t *testing.T) {
	r := rand.New(rand.NewSource(61))
	seen := [2]int{}
	for range 20000 {
		first := []int{1, 2, 50, maxLSN - 3, maxLSN}[r.Intn(5)]
		count := r.Intn(5)
		l := logOf(first, first+count-1, first-1+r.Intn(count+1))
		switch r.Intn(4) {
		case 0:
			l.First += r.Intn(5) - 2
		case 1:
			l.Durable += r.Intn(5) - 2
		case 2:
			if count > 0 {
				l.Entries[r.Intn(count)].LSN += r.Intn(3) - 1
			}
		}
		want := modelValid(l)
		if journal.Valid(l) != want {
			t.Fatalf("Valid is not %v: %s", want, show(l))
		}
		if want {
			seen[1]++
		} else {
			seen[0]++
		}
	}
	if min(seen[0], seen[1]) < 1000 {
		t.Errorf("too few logs of one sort: %v", seen)
	}
}

// P6.2 to P6.7 and the consequences: random histories of a log, against lists of entries.
func TestHistories(t *testing.T) {
	r := rand.New(rand.NewSource(62))
	for range 300 {
		first := []int{1, 1, 2, 1000, maxLSN - 20, maxLSN}[r.Intn(6)]
		want := api.Log{First: first, Durable: first - 1}
		got := want
		for range 60 {
			got, want = turn(t, r, got, want)
			if !same(got, want) {
				t.Fatalf("%s, want %s", show(got), show(want))
			}
		}
	}
}

// turn does one thing to a log and to its model.
func turn(t *testing.T, r *rand.Rand, got, want api.Log) (api.Log, api.Log) {
	t.Helper()
	last := want.First + len(want.Entries) - 1
	n := want.First - 2 + r.Intn(len(want.Entries)+5)
	switch r.Intn(8) {
	case 0:
		next, e := forced(t, got, n)
		return agreed(t, got, want, next, e, withDurable(want, max(want.Durable, n)), when(n > last, api.ErrGone))
	case 1:
		next, e := cut(t, got, n)
		modelled, code := modelCut(want, n)
		return agreed(t, got, want, next, e, modelled, code)
	case 2:
		durable, others := split(want)
		rest := listed(others)
		torn := r.Intn(len(rest)+20) - 5
		s := crash(t, got, torn)
		if s != headed(want.First)+listed(durable)+rest[:max(0, min(torn, len(rest)))] {
			t.Fatalf("Crash(%d) of %s: %d bytes", torn, show(got), len(s))
		}
		for len(others) > 0 && len(headed(1)+listed(durable)+listed(others[:1])) <= len(s) {
			durable, others = append(durable, others[0]), others[1:]
		}
		next, e := open(t, s)
		return agreed(t, got, want, next, e, api.Log{First: want.First, Entries: durable, Durable: want.First + len(durable) - 1}, api.OK)
	case 3:
		x, e := get(t, got, n)
		i := slices.IndexFunc(want.Entries, func(e api.Entry) bool { return e.LSN == n })
		if e != when(i < 0, api.ErrGone) || i >= 0 && x != want.Entries[i] {
			t.Fatalf("Get(%d) of %s: error %d, %v", n, show(got), e, x)
		}
		return got, want
	}
	x := kindly(1 + r.Intn(30))
	x.LSN = r.Intn(3)
	next, lsn, e := appended(t, got, x)
	x.LSN = last + 1
	code := when(x.LSN > maxLSN, api.ErrLimit)
	if code == api.OK && !entry.Valid(x) {
		code = api.ErrEntry
	}
	if code == api.OK && lsn != x.LSN {
		t.Fatalf("Append to %s: number %d", show(got), lsn)
	}
	want.Entries = slices.Clip(want.Entries)
	modelled := want
	modelled.Entries = append(modelled.Entries, x)
	return agreed(t, got, want, next, e, modelled, code)
}

// when is an error that applies or does not.
func when(applies bool, e api.Errno) api.Errno {
	if applies {
		return e
	}
	return api.OK
}

// agreed checks the error of a call. It returns what the call and the model made, or with an error what was before.
func agreed(t *testing.T, got, want, next api.Log, e api.Errno, modelled api.Log, code api.Errno) (api.Log, api.Log) {
	t.Helper()
	if e != code {
		t.Fatalf("error %d, want %d: %s", e, code, show(got))
	}
	if code != api.OK {
		return got, want
	}
	return next, modelled
}

// P6.6: random bytes behind a head, and random frames of entries that are right, repeated or left out, against a count of those in order.
func TestOpenRandom(t *testing.T) {
	r := rand.New(rand.NewSource(66))
	for range 4000 {
		first := 1 + r.Intn(3)
		s := headed(first)
		next, whole := first, true
		var entries []api.Entry
		for range r.Intn(8) {
			lsn := next
			if r.Intn(5) == 0 {
				lsn = max(1, next+r.Intn(3)-1)
			}
			f := framed(payload(kindly(lsn)))
			whole = whole && lsn == next
			if r.Intn(9) == 0 {
				b := []byte(f)
				b[r.Intn(len(b))] ^= byte(1 + r.Intn(255))
				f, whole = string(b), false
			}
			if whole {
				entries = append(entries, kindly(lsn))
			}
			s += f
			next++
		}
		if r.Intn(3) == 0 {
			more := make([]byte, r.Intn(40))
			r.Read(more)
			s += string(more)
		}
		opens(t, fmt.Sprintf("%q", s), s, first, entries)
	}
}
