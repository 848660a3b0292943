package chain_test

import (
	"fmt"
	"maps"
	"math"
	"math/rand"
	"slices"
	"strings"
	"testing"

	"pagemend/api"
	"pagemend/chain"
	"pagemend/journal"
)

const (
	maxPages   = 64
	maxEntries = 4096
	maxLSN     = 1 << 40
)

func set(data string) api.Cell { return api.Cell{Set: true, Data: data} }

// book writes right logs: it knows the last entry of each transaction and of each page.
type book struct {
	log     api.Log
	txs     map[int]int
	pages   map[int]int
	written int
}

// newBook is the book of a log that begins with the number first.
func newBook(first int) *book {
	return &book{log: api.Log{First: first, Durable: first - 1}, txs: map[int]int{}, pages: map[int]int{}}
}

// add gives e its number and its chains, and returns the number. Everything is durable, so that it may be cut.
func (b *book) add(e api.Entry) int {
	e.LSN = b.log.First + len(b.log.Entries)
	if e.Tx > 0 {
		e.PrevTx = b.txs[e.Tx]
		b.txs[e.Tx] = e.LSN
	}
	if e.Kind == api.EntryChange || e.Kind == api.EntryUndo {
		e.PrevPage = b.pages[e.Change.Page]
		b.pages[e.Change.Page] = e.LSN
	}
	b.log.Entries = append(b.log.Entries, e)
	b.log.Durable = e.LSN
	return e.LSN
}

// change writes a change; no two of one book have the same cells.
func (b *book) change(tx, page, slot int) int {
	b.written++
	c := api.Change{Page: page, Slot: slot, Before: set(fmt.Sprint(b.written - 1)), After: set(fmt.Sprint(b.written))}
	return b.add(api.Entry{Kind: api.EntryChange, Tx: tx, Change: c})
}

func (b *book) undo(ref int) int {
	done := b.log.Entries[ref-b.log.First]
	c := done.Change
	c.Before, c.After = c.After, c.Before
	return b.add(api.Entry{Kind: api.EntryUndo, Tx: done.Tx, Ref: ref, Change: c})
}

func (b *book) mark(kind, tx int) int { return b.add(api.Entry{Kind: kind, Tx: tx}) }

// copy is a book of the same log that is written on by itself.
func (b *book) copy() *book {
	c := *b
	c.log.Entries, c.txs, c.pages = slices.Clone(b.log.Entries), maps.Clone(b.txs), maps.Clone(b.pages)
	return &c
}

// write writes an entry of this kind of the transaction 1, whose first change is the number 1.
func write(b *book, kind int) int {
	switch kind {
	case api.EntryChange:
		return b.change(1, 0, 0)
	case api.EntryUndo:
		return b.undo(1)
	}
	return b.mark(kind, 1)
}

func (b *book) note() int { return b.add(api.Entry{Kind: api.EntryNote, Blob: "n"}) }

// story is a log from 1 to 16: the transaction 1 commits, 2 is rolled back, 3 goes back to a savepoint and runs on.
func story() api.Log {
	b := newBook(1)
	b.change(1, 3, 5)                                                           // 1
	b.change(2, 3, 6)                                                           // 2
	b.change(1, 0, 0)                                                           // 3
	b.mark(api.EntryCommit, 1)                                                  // 4
	b.note()                                                                    // 5
	b.change(2, 63, 15)                                                         // 6
	b.add(api.Entry{Kind: api.EntryIndex, Ref: 2, Change: api.Change{Page: 3}}) // 7
	b.change(3, 3, 5)                                                           // 8
	b.mark(api.EntryAbort, 2)                                                   // 9
	b.undo(6)                                                                   // 10
	b.undo(2)                                                                   // 11
	b.mark(api.EntryEnd, 2)                                                     // 12
	b.add(api.Entry{Kind: api.EntryCheckpoint, Blob: "c"})                      // 13
	b.change(3, 3, 5)                                                           // 14
	b.change(3, 0, 0)                                                           // 15
	b.undo(15)                                                                  // 16
	return b.log
}

// cut is l without the entries before first.
func cut(t *testing.T, l api.Log, first int) api.Log {
	t.Helper()
	rest, e := journal.Cut(l, first)
	if e != api.OK {
		t.Fatalf("cut at %d: %d", first, e)
	}
	return rest
}

// with is l with one entry changed.
func with(l api.Log, lsn int, do func(e *api.Entry)) api.Log {
	l.Entries = slices.Clone(l.Entries)
	do(&l.Entries[lsn-l.First])
	return l
}

// show tells a log in short: kind, number, transaction, and what the entry points to.
func show(l api.Log) string {
	s := []string{fmt.Sprintf("First %d:", l.First)}
	for _, e := range l.Entries[:min(len(l.Entries), 30)] {
		s = append(s, fmt.Sprintf("%d{kind %d tx %d<%d page %d.%d<%d ref %d}", e.LSN, e.Kind, e.Tx, e.PrevTx, e.Change.Page, e.Change.Slot, e.PrevPage, e.Ref))
	}
	return strings.Join(s, " ")
}

// kept calls do with l in new memory with spare capacity, and checks that this memory stays (R2).
func kept(t *testing.T, l api.Log, do func(api.Log)) {
	t.Helper()
	spare := api.Entry{LSN: -7, Kind: api.EntryNote, Blob: "spare"}
	long := append(slices.Clone(l.Entries), spare, spare, spare)
	before := slices.Clone(long)
	l.Entries = long[:len(l.Entries)]
	do(l)
	if !slices.Equal(long, before) {
		t.Errorf("the argument was changed: %s", show(l))
	}
}

// The following call the functions, and check that the argument stays and that nothing is returned with an error.

func pageOf(t *testing.T, l api.Log, page, last, above int) (got []api.Entry, code api.Errno) {
	t.Helper()
	kept(t, l, func(given api.Log) { got, code = chain.Page(given, page, last, above) })
	if code != api.OK && len(got) > 0 {
		t.Errorf("page %d from %d above %d: entries with the error %d", page, last, above, code)
	}
	return got, code
}

func txOf(t *testing.T, l api.Log, last int) (got []api.Entry, code api.Errno) {
	t.Helper()
	kept(t, l, func(given api.Log) { got, code = chain.Tx(given, last) })
	if code != api.OK && len(got) > 0 {
		t.Errorf("transaction from %d: entries with the error %d", last, code)
	}
	return got, code
}

func pendingOf(t *testing.T, l api.Log, last int) (got []int, code api.Errno) {
	t.Helper()
	kept(t, l, func(given api.Log) { got, code = chain.Pending(given, last) })
	if code != api.OK && len(got) > 0 {
		t.Errorf("pending from %d: numbers with the error %d", last, code)
	}
	return got, code
}

func headsOf(t *testing.T, l api.Log) (got []int) {
	t.Helper()
	kept(t, l, func(given api.Log) { got = chain.Heads(given) })
	return got
}

func check(t *testing.T, l api.Log) (code api.Errno) {
	t.Helper()
	kept(t, l, func(given api.Log) { code = chain.Check(given) })
	return code
}

// numbers are the numbers of entries; an entry that is not that of l counts as -1.
func numbers(l api.Log, entries []api.Entry) []int {
	var all []int
	for _, e := range entries {
		i := e.LSN - l.First
		if i < 0 || i >= len(l.Entries) || l.Entries[i] != e {
			all = append(all, -1)
			continue
		}
		all = append(all, e.LSN)
	}
	return all
}

func wantPage(t *testing.T, l api.Log, page, last, above int, want []int, code api.Errno) {
	t.Helper()
	got, e := pageOf(t, l, page, last, above)
	if e != code || !slices.Equal(numbers(l, got), want) {
		t.Errorf("page %d from %d above %d: %v, %d; want %v, %d; log %s", page, last, above, numbers(l, got), e, want, code, show(l))
	}
}

func wantTx(t *testing.T, l api.Log, last int, want []int, code api.Errno) {
	t.Helper()
	got, e := txOf(t, l, last)
	if e != code || !slices.Equal(numbers(l, got), want) {
		t.Errorf("transaction from %d: %v, %d; want %v, %d; log %s", last, numbers(l, got), e, want, code, show(l))
	}
}

func wantPending(t *testing.T, l api.Log, last int, want []int, code api.Errno) {
	t.Helper()
	got, e := pendingOf(t, l, last)
	if e != code || !slices.Equal(got, want) {
		t.Errorf("pending from %d: %v, %d; want %v, %d; log %s", last, got, e, want, code, show(l))
	}
}

// wantCheck checks a log that must be valid, so that it is its chains that are wrong.
func wantCheck(t *testing.T, name string, l api.Log, code api.Errno) {
	t.Helper()
	if !journal.Valid(l) {
		t.Errorf("%s: the log is not valid: %s", name, show(l))
	}
	if got := check(t, l); got != code {
		t.Errorf("%s: %d, want %d; log %s", name, got, code, show(l))
	}
}

// invalids are logs that are not valid.
func invalids() []api.Log {
	l := story()
	gap, first, durable := l, l, l
	gap.Entries = slices.Delete(slices.Clone(l.Entries), 7, 8)
	first.First = 2
	durable.Durable = 17
	long := newBook(1)
	for range maxEntries + 1 {
		long.note()
	}
	return []api.Log{
		{},
		{First: -1, Durable: -2},
		{First: math.MinInt, Durable: math.MaxInt},
		{First: math.MaxInt, Durable: math.MaxInt - 1},
		{First: maxLSN + 1, Durable: maxLSN},
		{First: 1, Durable: -1},
		gap, first, durable, long.log,
		with(l, 9, func(e *api.Entry) { e.Kind = 9 }),
		with(l, 1, func(e *api.Entry) { e.LSN = 0 }),
		with(l, 16, func(e *api.Entry) { e.PrevPage = 16 }),
		with(l, 8, func(e *api.Entry) { e.PrevTx = -1 }),
		with(l, 8, func(e *api.Entry) { e.Change.Page = maxPages }),
		with(l, 8, func(e *api.Entry) { e.Tx = 0 }),
	}
}

// P7.1: Page walks back from each entry of a chain to each number, and returns the entries in ascending order.
func TestPage(t *testing.T) {
	l := story()
	for page, numbers := range map[int][]int{3: {1, 2, 8, 11, 14}, 0: {3, 15, 16}, 63: {6, 10}, 7: nil} {
		wantPage(t, l, page, 0, 0, nil, api.OK)
		for i, last := range numbers {
			wantPage(t, l, page, last, 0, numbers[:i+1], api.OK)
			for j, above := range numbers[:i+1] {
				wantPage(t, l, page, last, above, numbers[j+1:i+1], api.OK)
			}
		}
	}
}

// P7.1: a walk that does not meet above exactly ends in api.ErrChain, where it falls below above, also where it does not begin.
func TestPagePastAbove(t *testing.T) {
	l := story()
	for above := range 20 {
		met := slices.Contains([]int{0, 1, 2, 8, 11, 14}, above)
		if !met {
			wantPage(t, l, 3, 14, above, nil, api.ErrChain)
		}
	}
	wantPage(t, l, 3, 14, 13, nil, api.ErrChain) // one less
	wantPage(t, l, 3, 14, 14, nil, api.OK)       // equal
	wantPage(t, l, 3, 14, 15, nil, api.ErrChain) // one greater
	wantPage(t, l, 3, 1, 0, []int{1}, api.OK)
	wantPage(t, l, 3, 1, 1, nil, api.OK)
	wantPage(t, l, 3, 1, 2, nil, api.ErrChain)
	wantPage(t, l, 3, 0, 0, nil, api.OK)
	wantPage(t, l, 3, 0, 1, nil, api.ErrChain)
	wantPage(t, l, 3, 0, math.MaxInt, nil, api.ErrChain)
	wantPage(t, l, 3, math.MaxInt, math.MaxInt, nil, api.OK)
	wantPage(t, l, 3, math.MaxInt-1, math.MaxInt, nil, api.ErrChain)
	wantPage(t, l, 3, 40, 40, nil, api.OK) // no entry is looked at
	wantPage(t, l, 0, 5, 5, nil, api.OK)
}

// P7.1: pages and numbers have ranges.
func TestPageRange(t *testing.T) {
	b := newBook(1)
	b.change(1, 0, 0)
	b.change(1, maxPages-1, 0)
	wantPage(t, b.log, 0, 1, 0, []int{1}, api.OK)
	wantPage(t, b.log, maxPages-1, 2, 0, []int{2}, api.OK)
	for _, l := range []api.Log{b.log, journal.New(), cut(t, b.log, 2), cut(t, b.log, 3)} {
		for _, page := range []int{math.MinInt, -2, -1, maxPages, maxPages + 1, 1 << 32, math.MaxInt} {
			for _, n := range []int{math.MinInt, -1, 0, 1, 2, 3, math.MaxInt} {
				wantPage(t, l, page, n, 0, nil, api.ErrRange)
				wantPage(t, l, page, 0, n, nil, api.ErrRange)
			}
		}
		for _, n := range []int{math.MinInt, -2, -1} {
			for _, other := range []int{math.MinInt, -1, 0, 1, 9, math.MaxInt} {
				wantPage(t, l, 0, n, other, nil, api.ErrRange)
				wantPage(t, l, 0, other, n, nil, api.ErrRange)
				wantPage(t, l, maxPages-1, n, other, nil, api.ErrRange)
			}
		}
	}
}

// P7.1: each number of the walk is in the log, and its entry changes the page.
func TestPageWrong(t *testing.T) {
	l := story()
	wantPage(t, l, 3, 17, 0, nil, api.ErrGone)
	wantPage(t, l, 3, 17, 16, nil, api.ErrGone)
	wantPage(t, l, 3, math.MaxInt, 0, nil, api.ErrGone)
	for _, lsn := range []int{3, 6, 10, 15, 16} { // another page
		wantPage(t, l, 3, lsn, 0, nil, api.ErrChain)
	}
	for _, lsn := range []int{4, 5, 7, 9, 12, 13} { // no page
		for _, page := range []int{0, 3, 63} {
			wantPage(t, l, page, lsn, 0, nil, api.ErrChain)
			wantPage(t, l, page, lsn, lsn-1, nil, api.ErrChain)
			wantPage(t, l, page, lsn, lsn, nil, api.OK)
			wantPage(t, l, page, lsn, lsn+1, nil, api.ErrChain)
		}
	}
	for _, lsn := range []int{3, 4, 5, 6, 7} { // within the chain
		wrong := with(l, 8, func(e *api.Entry) { e.PrevPage = lsn })
		wantPage(t, wrong, 3, 14, 0, nil, api.ErrChain)
		wantPage(t, wrong, 3, 14, lsn, []int{8, 11, 14}, api.OK) // which is not looked at
		wantPage(t, wrong, 3, 14, lsn-1, nil, api.ErrChain)
	}
	wrong := with(l, 8, func(e *api.Entry) { e.PrevPage = 5 })
	wantPage(t, wrong, 3, 14, 6, nil, api.ErrChain)
	wantPage(t, wrong, 3, 14, 2, nil, api.ErrChain)
}

// P7.1: a log without entries has no entry of any page.
func TestPageEmpty(t *testing.T) {
	for _, first := range []int{1, 2, 9, maxLSN} {
		l := api.Log{First: first, Durable: first - 1}
		wantPage(t, l, 0, 0, 0, nil, api.OK)
		wantPage(t, l, 0, 0, 1, nil, api.ErrChain)
		for _, last := range []int{1, first - 1, first, first + 1} {
			if last > 0 {
				wantPage(t, l, 0, last, 0, nil, api.ErrGone)
				wantPage(t, l, 0, last, last-1, nil, api.ErrGone)
			}
			wantPage(t, l, 0, last, last, nil, api.OK)
			wantPage(t, l, 0, last, last+1, nil, api.ErrChain)
		}
	}
}

// P7.1: in a log that was cut, with last, above and PrevPage about First.
func TestPageCut(t *testing.T) {
	l := cut(t, story(), 8) // 8, 11, 14 are left; PrevPage of 8 is 2
	wantPage(t, l, 3, 14, 8, []int{11, 14}, api.OK)
	wantPage(t, l, 3, 14, 2, []int{8, 11, 14}, api.OK)
	wantPage(t, l, 3, 14, 1, nil, api.ErrGone)
	wantPage(t, l, 3, 14, 0, nil, api.ErrGone)
	wantPage(t, l, 3, 14, 3, nil, api.ErrChain)
	wantPage(t, l, 3, 14, 7, nil, api.ErrChain)
	wantPage(t, l, 3, 14, 9, nil, api.ErrChain)
	for last, want := range map[int]api.Errno{7: api.ErrGone, 8: api.ErrGone, 9: api.ErrChain} {
		wantPage(t, l, 3, last, 0, nil, want)
	}
	wantPage(t, l, 3, 7, 6, nil, api.ErrGone)
	wantPage(t, l, 3, 7, 7, nil, api.OK)
	wantPage(t, l, 3, 7, 8, nil, api.ErrChain)
	wantPage(t, l, 3, 8, 7, nil, api.ErrChain)
	wantPage(t, l, 3, 8, 8, nil, api.OK)
	wantPage(t, l, 3, 8, 9, nil, api.ErrChain)
	one := newBook(1)
	for range 12 {
		one.change(1, 3, 5)
	}
	l = cut(t, one.log, 8)
	wantPage(t, l, 3, 9, 7, []int{8, 9}, api.OK)
	wantPage(t, l, 3, 9, 6, nil, api.ErrGone) // 7 is not in the log any more
	wantPage(t, l, 3, 9, 0, nil, api.ErrGone)
	wantPage(t, l, 3, 9, 8, []int{9}, api.OK)
	wantPage(t, l, 3, 9, 9, nil, api.OK)
	wantPage(t, l, 3, 12, 7, []int{8, 9, 10, 11, 12}, api.OK)
	wantPage(t, l, 3, 13, 7, nil, api.ErrGone)
	for prev, want := range map[int]api.Errno{7: api.ErrGone, 8: api.ErrGone, 9: api.ErrGone, 6: api.ErrGone, 0: api.OK} {
		wrong := with(l, 10, func(e *api.Entry) { e.PrevPage = prev })
		entries := []int{10}
		if want != api.OK {
			entries = nil
		}
		wantPage(t, wrong, 3, 10, 0, entries, want)
	}
	to := with(l, 10, func(e *api.Entry) { e.PrevPage = 7 })
	wantPage(t, to, 3, 10, 7, []int{10}, api.OK)
	to = with(l, 10, func(e *api.Entry) { e.PrevPage = 8 })
	wantPage(t, to, 3, 10, 7, []int{8, 10}, api.OK)
	wantPage(t, cut(t, one.log, 13), 3, 12, 0, nil, api.ErrGone)
	wantPage(t, cut(t, one.log, 13), 3, 12, 12, nil, api.OK)
	wantPage(t, cut(t, one.log, 13), 3, 0, 0, nil, api.OK)
}

// P7.1: the errors have an order: the log, the range, then entry by entry, then the end.
func TestPageOrder(t *testing.T) {
	for _, l := range invalids() {
		wantPage(t, l, -1, -1, -1, nil, api.ErrLog)
		wantPage(t, l, 3, 17, 0, nil, api.ErrLog)
		wantPage(t, l, 3, 14, 13, nil, api.ErrLog)
		wantPage(t, l, 3, 0, 0, nil, api.ErrLog)
	}
	l := story()
	wantPage(t, l, -1, 17, 0, nil, api.ErrRange)
	wantPage(t, l, maxPages, 4, 0, nil, api.ErrRange)
	wantPage(t, l, 3, -1, 0, nil, api.ErrRange)
	wantPage(t, l, 3, 17, -1, nil, api.ErrRange)
	wantPage(t, l, 3, 3, -1, nil, api.ErrRange)
	rest := cut(t, l, 8)
	wrong := with(rest, 11, func(e *api.Entry) { e.PrevPage = 10 })
	wantPage(t, wrong, 3, 14, 0, nil, api.ErrChain) // the page 63 comes before the number that is gone
	wrong = with(wrong, 10, func(e *api.Entry) { e.Change.Page, e.PrevPage = 3, 7 })
	wantPage(t, wrong, 3, 14, 0, nil, api.ErrGone)
	wantPage(t, wrong, 3, 14, 6, nil, api.ErrGone) // before the end
	wantPage(t, wrong, 3, 14, 7, []int{10, 11, 14}, api.OK)
	wantPage(t, wrong, 3, 14, 8, nil, api.ErrChain)
}

// P7.2: Tx walks back from each entry of a transaction to its beginning.
func TestTx(t *testing.T) {
	l := story()
	for _, numbers := range [][]int{{1, 3, 4}, {2, 6, 9, 10, 11, 12}, {8, 14, 15, 16}} {
		for i, last := range numbers {
			wantTx(t, l, last, numbers[:i+1], api.OK)
		}
	}
	wantTx(t, l, 0, nil, api.OK)
	for _, lsn := range []int{5, 7, 13} { // Tx 0
		wantTx(t, l, lsn, nil, api.ErrChain)
	}
	for _, n := range []int{17, 18, maxLSN, math.MaxInt} {
		wantTx(t, l, n, nil, api.ErrGone)
	}
	for _, n := range []int{-1, -2, math.MinInt} {
		wantTx(t, l, n, nil, api.ErrRange)
	}
}

// P7.2: each entry of the walk is of the transaction of the last one.
func TestTxWrong(t *testing.T) {
	l := story()
	for prev, want := range map[int]api.Errno{
		13: api.ErrChain, 12: api.ErrChain, 11: api.ErrChain, 9: api.ErrChain, 7: api.ErrChain, 5: api.ErrChain, 4: api.ErrChain, 3: api.ErrChain, 2: api.ErrChain, 1: api.ErrChain, 8: api.OK, 0: api.OK,
	} {
		wrong := with(l, 14, func(e *api.Entry) { e.PrevTx = prev })
		var numbers []int
		switch prev {
		case 8:
			numbers = []int{8, 14, 15}
		case 0:
			numbers = []int{14, 15}
		}
		wantTx(t, wrong, 15, numbers, want)
		wantPending(t, wrong, 15, numbers, want)
	}
	wrong := with(l, 8, func(e *api.Entry) { e.Tx = 1 << 30 })
	wantTx(t, wrong, 14, nil, api.ErrChain)
	wantTx(t, wrong, 8, []int{8}, api.OK)
}

// P7.2: in logs without entries, and in logs that were cut, the walk ends at 0 alone.
func TestTxCut(t *testing.T) {
	for _, first := range []int{1, 2, 9, maxLSN} {
		l := api.Log{First: first, Durable: first - 1}
		wantTx(t, l, 0, nil, api.OK)
		for _, last := range []int{1, first - 1, first, first + 1} {
			if last > 0 {
				wantTx(t, l, last, nil, api.ErrGone)
			}
		}
	}
	l := cut(t, story(), 8)
	for last := 1; last <= 7; last++ {
		wantTx(t, l, last, nil, api.ErrGone)
	}
	wantTx(t, l, 8, []int{8}, api.OK)
	wantTx(t, l, 9, nil, api.ErrGone)
	wantTx(t, l, 12, nil, api.ErrGone)
	wantTx(t, l, 16, []int{8, 14, 15, 16}, api.OK)
	l = cut(t, l, 9)
	wantTx(t, l, 16, nil, api.ErrGone)
	wantTx(t, l, 14, nil, api.ErrGone)
	wantTx(t, l, 8, nil, api.ErrGone)
	wantTx(t, with(l, 14, func(e *api.Entry) { e.PrevTx = 9 }), 14, nil, api.ErrChain)
	wantTx(t, with(l, 14, func(e *api.Entry) { e.PrevTx = 10 }), 14, nil, api.ErrChain)
	wantTx(t, with(l, 14, func(e *api.Entry) { e.PrevTx = 0 }), 14, []int{14}, api.OK)
	wantTx(t, cut(t, l, 17), 16, nil, api.ErrGone)
	wantTx(t, cut(t, l, 17), 17, nil, api.ErrGone)
	wantTx(t, cut(t, l, 17), 0, nil, api.OK)
}

// P7.2, P7.4: the errors have an order: the log, the range, then entry by entry.
func TestTxOrder(t *testing.T) {
	for _, l := range invalids() {
		for _, last := range []int{math.MinInt, -1, 0, 1, 5, 17} {
			wantTx(t, l, last, nil, api.ErrLog)
			wantPending(t, l, last, nil, api.ErrLog)
		}
	}
	l := cut(t, story(), 8)
	wrong := with(l, 11, func(e *api.Entry) { e.PrevTx = 8 }) // of the transaction 3, before a number that is gone
	wantTx(t, wrong, 12, nil, api.ErrChain)
	wantPending(t, wrong, 12, nil, api.ErrChain)
	wrong = with(l, 11, func(e *api.Entry) { e.PrevTx = 7 })
	wantTx(t, wrong, 12, nil, api.ErrGone)
	wantPending(t, wrong, 12, nil, api.ErrGone)
}

// P7.3: Heads says for each page the last entry that changed it.
func TestHeads(t *testing.T) {
	want := make([]int, maxPages)
	want[0], want[3], want[63] = 16, 14, 10
	if got := headsOf(t, story()); !slices.Equal(got, want) {
		t.Errorf("heads: %v", got)
	}
	want[0], want[3], want[63] = 3, 11, 10
	l := story()
	l.Entries, l.Durable = l.Entries[:13], 13
	if got := headsOf(t, l); !slices.Equal(got, want) {
		t.Errorf("heads of a beginning: %v", got)
	}
	want[0], want[3], want[63] = 16, 14, 0
	if got := headsOf(t, cut(t, story(), 14)); !slices.Equal(got, want) {
		t.Errorf("heads of a rest: %v", got)
	}
}

// P7.3: of logs without changes, of one in which each page was changed, and of logs that are not valid.
func TestHeadsEdges(t *testing.T) {
	none := make([]int, maxPages)
	b := newBook(1)
	b.note()
	b.add(api.Entry{Kind: api.EntryIndex, Ref: 1, Change: api.Change{Page: 9}})
	for _, l := range []api.Log{journal.New(), {First: 9, Durable: 8}, {First: maxLSN, Durable: maxLSN - 1}, b.log, cut(t, story(), 17)} {
		if got := headsOf(t, l); !slices.Equal(got, none) {
			t.Errorf("heads without changes: %v", got)
		}
	}
	b = newBook(100)
	want := make([]int, maxPages)
	for i := range 2 * maxPages {
		page := i * 13 % maxPages
		want[page] = b.change(1+i%5, page, i%16)
	}
	if got := headsOf(t, b.log); !slices.Equal(got, want) || slices.Contains(got, 0) {
		t.Errorf("heads of all pages: %v", got)
	}
	for _, l := range invalids() {
		if got := headsOf(t, l); len(got) > 0 {
			t.Errorf("heads of a log that is not valid: %v", got)
		}
	}
}

// P7.4: Pending returns the changes that are not undone: all, some and none of them.
func TestPending(t *testing.T) {
	l := story()
	for last, want := range map[int][]int{
		0: nil, 1: {1}, 3: {1, 3}, 4: {1, 3},
		2: {2}, 6: {2, 6}, 9: {2, 6}, 10: {2}, 11: nil, 12: nil,
		8: {8}, 14: {8, 14}, 15: {8, 14, 15}, 16: {8, 14},
	} {
		wantPending(t, l, last, want, api.OK)
	}
	for last, want := range map[int]api.Errno{-1: api.ErrRange, math.MinInt: api.ErrRange, 17: api.ErrGone, math.MaxInt: api.ErrGone, 5: api.ErrChain, 7: api.ErrChain, 13: api.ErrChain} {
		wantPending(t, l, last, nil, want)
	}
	for _, first := range []int{1, 2, 9} {
		wantPending(t, api.Log{First: first, Durable: first - 1}, 0, nil, api.OK)
		wantPending(t, api.Log{First: first, Durable: first - 1}, first, nil, api.ErrGone)
	}
	b := newBook(1) // undone in the order in which they were done, which is not right, but Pending does not ask
	b.change(1, 0, 0)
	b.change(1, 0, 1)
	b.change(1, 0, 2)
	b.undo(1)
	wantPending(t, b.log, 4, []int{2, 3}, api.OK)
	b.undo(2)
	wantPending(t, b.log, 5, []int{3}, api.OK)
	b.undo(3)
	wantPending(t, b.log, 6, nil, api.OK)
}

// P7.4: only an EntryUndo among the entries of the transaction counts, and only an EntryChange is returned; a Ref may be before First, to an entry of another transaction, and twice the same.
func TestPendingRefs(t *testing.T) {
	b := newBook(5)
	b.change(1, 3, 0) // 5
	b.change(1, 3, 1) // 6
	b.change(2, 4, 0) // 7
	b.undo(5)         // 8
	b.undo(7)         // 9
	b.add(api.Entry{Kind: api.EntryIndex, Ref: 6, Change: api.Change{Page: 3}})
	l := b.log
	wantPending(t, l, 8, []int{6}, api.OK)
	wantPending(t, l, 9, nil, api.OK)
	for ref, want := range map[int][]int{1: {5, 6}, 4: {5, 6}, 5: {6}, 6: {5}} {
		other := with(l, 8, func(e *api.Entry) { e.Ref = ref })
		wantPending(t, other, 8, want, api.OK)
	}
	other := with(l, 9, func(e *api.Entry) { e.Ref = 6 }) // of the transaction 2
	wantPending(t, other, 8, []int{6}, api.OK)
	wantPending(t, other, 9, []int{7}, api.OK)
	b = newBook(5)
	b.change(1, 3, 0)
	b.change(1, 3, 1)
	b.undo(6)
	b.undo(6)
	b.add(api.Entry{Kind: api.EntryUndo, Tx: 1, Ref: 7, Change: api.Change{Page: 3}})
	wantPending(t, b.log, 7, []int{5}, api.OK)
	wantPending(t, b.log, 8, []int{5}, api.OK)
	wantPending(t, b.log, 9, []int{5}, api.OK) // what was undone stays so, though its EntryUndo is referred to
}

// P7.5: logs that are right, and the Example.
func TestCheck(t *testing.T) {
	b := newBook(1)
	b.change(1, 0, 0)
	wantCheck(t, "the Example", b.log, api.OK)
	wantCheck(t, "the story", story(), api.OK)
	for _, first := range []int{1, 2, maxLSN} {
		wantCheck(t, "no entries", api.Log{First: first, Durable: first - 1}, api.OK)
	}
	b = newBook(1)
	b.change(1, 0, 0) // the same cell is changed by two transactions and three times by one
	b.change(1, 0, 0)
	b.change(2, 0, 0)
	b.change(1, 0, 0)
	b.undo(4)
	b.change(1, 0, 0)
	b.undo(6)
	b.undo(2)
	b.mark(api.EntryAbort, 1)
	b.undo(1)
	b.mark(api.EntryEnd, 1)
	b.mark(api.EntryCommit, 2)
	wantCheck(t, "one cell", b.log, api.OK)
	for _, l := range invalids() {
		if got := check(t, l); got != api.ErrLog {
			t.Errorf("a log that is not valid: %d; %s", got, show(l))
		}
	}
}

// P7.5: PrevTx is the last entry of the transaction; before the first one in the log, it is 0 or, where that was cut, any number before First.
func TestCheckPrevTx(t *testing.T) {
	l := story()
	for prev := range 14 { // of 14, the entry before is 8; of 8, there is none
		want := api.ErrChain
		if prev == 8 {
			want = api.OK
		}
		wantCheck(t, fmt.Sprint("PrevTx of 14 is ", prev), with(l, 14, func(e *api.Entry) { e.PrevTx = prev }), want)
	}
	for prev := range 8 {
		want := api.ErrChain
		if prev == 0 {
			want = api.OK
		}
		wantCheck(t, fmt.Sprint("PrevTx of 8 is ", prev), with(l, 8, func(e *api.Entry) { e.PrevTx = prev }), want)
	}
	rest := cut(t, l, 8)
	for prev := range 14 {
		want := api.ErrChain
		if prev == 8 {
			want = api.OK
		}
		wantCheck(t, fmt.Sprint("behind the cut, PrevTx of 14 is ", prev), with(rest, 14, func(e *api.Entry) { e.PrevTx = prev }), want)
	}
	rest = cut(t, l, 9)
	for prev := range 14 {
		want := api.ErrChain
		if prev < 9 {
			want = api.OK
		}
		wantCheck(t, fmt.Sprint("the first one behind the cut, PrevTx of 14 is ", prev), with(rest, 14, func(e *api.Entry) { e.PrevTx = prev }), want)
	}
	for _, kind := range []int{api.EntryCommit, api.EntryAbort} {
		for prev := 1; prev <= 3; prev++ {
			b := newBook(1)
			b.change(1, 0, 0)
			b.change(2, 0, 1)
			b.change(1, 0, 2)
			b.mark(kind, 1)
			want := api.ErrChain
			if prev == 3 {
				want = api.OK
			}
			wantCheck(t, fmt.Sprintf("PrevTx of the kind %d is %d", kind, prev), with(b.log, 4, func(e *api.Entry) { e.PrevTx = prev }), want)
		}
	}
}

// P7.5: behind an EntryCommit and behind an EntryEnd, no entry of the transaction follows; those of others do.
func TestCheckOver(t *testing.T) {
	ended := newBook(1)
	ended.undo(ended.change(1, 0, 0))
	ended.mark(api.EntryAbort, 1)
	ended.mark(api.EntryEnd, 1)
	committed := newBook(1)
	committed.change(1, 0, 0)
	committed.mark(api.EntryCommit, 1)
	for name, over := range map[string]*book{"an end": ended, "a commit": committed} {
		for _, between := range []bool{false, true} {
			for kind := api.EntryChange; kind <= api.EntryEnd; kind++ {
				b := over.copy()
				if between {
					b.change(2, 0, 0)
					b.note()
				}
				wantCheck(t, name, b.log, api.OK)
				next := b.copy()
				write(next, kind)
				wantCheck(t, fmt.Sprintf("%d behind %s", kind, name), next.log, api.ErrChain)
			}
			b := over.copy()
			b.undo(b.change(2, 0, 0))
			b.mark(api.EntryAbort, 2)
			b.mark(api.EntryEnd, 2)
			b.change(3, 0, 0)
			b.mark(api.EntryCommit, 3)
			wantCheck(t, "others behind "+name, b.log, api.OK)
		}
	}
	for _, over := range []int{api.EntryCommit, api.EntryEnd} { // behind a cut, where nothing else is wrong with what follows
		for kind := api.EntryChange; kind <= api.EntryEnd; kind++ {
			e := api.Entry{Kind: kind, Tx: 1}
			if kind == api.EntryUndo {
				e.Ref = 3
			}
			b := newBook(9)
			b.txs[1] = 4
			next := b.copy()
			next.add(e)
			wantCheck(t, fmt.Sprint("behind a cut: ", kind), next.log, api.OK)
			b.mark(over, 1)
			wantCheck(t, fmt.Sprint("behind a cut: ", over), b.log, api.OK)
			b.add(e)
			wantCheck(t, fmt.Sprintf("behind a cut: %d behind %d", kind, over), b.log, api.ErrChain)
		}
	}
}

// P7.5: PrevPage is the last entry that changed the page; before the first one in the log, any number before First.
func TestCheckPrevPage(t *testing.T) {
	l := story()
	for lsn, right := range map[int]int{1: 0, 3: 0, 6: 0, 2: 1, 8: 2, 11: 8, 14: 11, 15: 3, 16: 15, 10: 6} {
		for prev := range lsn {
			want := api.ErrChain
			if prev == right {
				want = api.OK
			}
			wantCheck(t, fmt.Sprintf("PrevPage of %d is %d", lsn, prev), with(l, lsn, func(e *api.Entry) { e.PrevPage = prev }), want)
		}
	}
	rest := cut(t, l, 9)
	for lsn, right := range map[int]int{10: -1, 11: -1, 15: -1, 14: 11, 16: 15} {
		for prev := range lsn {
			want := api.ErrChain
			if prev == right || right == -1 && prev < 9 {
				want = api.OK
			}
			wantCheck(t, fmt.Sprintf("behind a cut, PrevPage of %d is %d", lsn, prev), with(rest, lsn, func(e *api.Entry) { e.PrevPage = prev }), want)
		}
	}
}

// undoing is a log in which the last entry is an EntryUndo of 4; do changes that one.
func undoing(do func(e *api.Entry)) api.Log {
	b := newBook(3)
	b.txs[1] = 2
	b.change(1, 0, 0)         // 3
	b.change(1, 0, 0)         // 4
	b.change(2, 0, 0)         // 5
	b.change(1, 0, 1)         // 6
	b.change(1, 1, 0)         // 7
	b.undo(7)                 // 8
	b.mark(api.EntryAbort, 1) // 9
	b.undo(4)                 // 10
	return with(b.log, 10, do)
}

// P7.5: an EntryUndo refers to a change of its transaction, and has its inverse.
func TestCheckUndo(t *testing.T) {
	wantCheck(t, "an undo", undoing(func(e *api.Entry) {}), api.OK)
	for _, ref := range []int{3, 5, 6, 7, 8, 9} {
		for _, alike := range []bool{false, true} {
			wrong := undoing(func(e *api.Entry) { e.Ref = ref })
			if alike { // with the inverse of what it refers to
				done := wrong.Entries[ref-3].Change
				wrong = with(wrong, 10, func(e *api.Entry) {
					e.Change.Before, e.Change.After = done.After, done.Before
					e.Change.Slot = done.Slot
					if done.Page == 1 {
						e.Change.Page, e.PrevPage = 1, 8
					}
				})
			}
			want := api.ErrChain
			if ref == 6 && alike {
				want = api.OK // this one may be undone as well
			}
			wantCheck(t, fmt.Sprint("Ref is ", ref), wrong, want)
		}
	}
	for name, do := range map[string]func(c *api.Change){
		"not turned":    func(c *api.Change) { c.Before, c.After = c.After, c.Before },
		"before":        func(c *api.Change) { c.Before = set("x") },
		"after":         func(c *api.Change) { c.After = set("x") },
		"before empty":  func(c *api.Change) { c.Before = api.Cell{} },
		"after empty":   func(c *api.Change) { c.After = api.Cell{} },
		"slot":          func(c *api.Change) { c.Slot = 1 },
		"slot 15":       func(c *api.Change) { c.Slot = 15 },
		"both are same": func(c *api.Change) { c.After = c.Before },
	} {
		wantCheck(t, name, undoing(func(e *api.Entry) { do(&e.Change) }), api.ErrChain)
	}
	wantCheck(t, "page", undoing(func(e *api.Entry) { e.Change.Page, e.PrevPage = 1, 8 }), api.ErrChain)
	wantCheck(t, "a new page", undoing(func(e *api.Entry) { e.Change.Page, e.PrevPage = 2, 0 }), api.ErrChain)
}

// P7.5: no change is undone twice, and none before a later one of the same cell by the same transaction.
func TestCheckUndoOrder(t *testing.T) {
	b := newBook(1)
	b.change(1, 0, 0)
	b.undo(1)
	b.change(1, 0, 0)
	twice := b.copy()
	b.undo(3)
	wantCheck(t, "each once", b.log, api.OK)
	b.undo(3)
	wantCheck(t, "twice", b.log, api.ErrChain)
	twice.undo(1)
	wantCheck(t, "twice, with a later change", twice.log, api.ErrChain)

	for _, c := range []struct {
		name       string
		page, slot int
		tx         int
		want       api.Errno
	}{
		{"the same cell", 0, 0, 1, api.ErrChain},
		{"another slot", 0, 1, 1, api.OK},
		{"another page", 1, 0, 1, api.OK},
		{"another transaction", 0, 0, 2, api.OK},
	} {
		b := newBook(1)
		b.change(1, 0, 0)
		b.change(c.tx, c.page, c.slot)
		b.undo(1)
		wantCheck(t, c.name, b.log, c.want)
		b.undo(2)
		wantCheck(t, c.name+", then it", b.log, c.want)
		b = newBook(1)
		b.change(1, 0, 0)
		b.change(c.tx, c.page, c.slot)
		b.undo(2)
		b.undo(1)
		wantCheck(t, c.name+", the later one first", b.log, api.OK)
	}
	b = newBook(1)
	b.change(1, 0, 0)
	b.change(1, 0, 0)
	b.change(1, 0, 0)
	b.undo(3)
	b.undo(1)
	wantCheck(t, "one between is not undone", b.log, api.ErrChain)
}

// undoBehindCut is a log that begins with 6, with two changes of a transaction that began before, and then undo entries.
func undoBehindCut(undos ...api.Entry) api.Log {
	b := newBook(6)
	b.txs[1], b.txs[2], b.txs[3] = 5, 4, 0
	b.change(1, 0, 0) // 6
	b.change(1, 0, 1) // 7
	for _, e := range undos {
		e.Kind = api.EntryUndo
		b.add(e)
	}
	return b.log
}

// P7.5: of a Ref before the log nothing is known, but that it is undone once, and behind the later changes of its cell.
func TestCheckUndoBeforeFirst(t *testing.T) {
	second := api.Change{Slot: 2}
	wantCheck(t, "a Ref before First", undoBehindCut(api.Entry{Tx: 1, Ref: 5, Change: second}), api.OK)
	wantCheck(t, "the number 1", undoBehindCut(api.Entry{Tx: 1, Ref: 1, Change: second}), api.OK)
	wantCheck(t, "two", undoBehindCut(api.Entry{Tx: 1, Ref: 5, Change: second}, api.Entry{Tx: 1, Ref: 4, Change: second}), api.OK)
	wantCheck(t, "twice", undoBehindCut(api.Entry{Tx: 1, Ref: 5, Change: second}, api.Entry{Tx: 1, Ref: 5, Change: second}), api.ErrChain)
	wantCheck(t, "twice, by another", undoBehindCut(api.Entry{Tx: 1, Ref: 4, Change: second}, api.Entry{Tx: 2, Ref: 4, Change: second}), api.ErrChain)
	wantCheck(t, "before a later one", undoBehindCut(api.Entry{Tx: 1, Ref: 5}), api.ErrChain)
	wantCheck(t, "before a later one of another", undoBehindCut(api.Entry{Tx: 2, Ref: 3}), api.OK)
	inverse := api.Change{Before: set("1"), After: set("0")}
	wantCheck(t, "behind it", undoBehindCut(api.Entry{Tx: 1, Ref: 6, Change: inverse}, api.Entry{Tx: 1, Ref: 5}), api.OK)
	wantCheck(t, "First itself is in the log", undoBehindCut(api.Entry{Tx: 1, Ref: 6}), api.ErrChain)
}

// P7.5: behind an EntryAbort of a transaction, only its EntryUndo and its EntryEnd follow.
func TestCheckAbort(t *testing.T) {
	for kind, want := range map[int]api.Errno{api.EntryChange: api.ErrChain, api.EntryUndo: api.OK, api.EntryCommit: api.ErrChain, api.EntryAbort: api.ErrChain, api.EntryEnd: api.OK} {
		for _, between := range []bool{false, true} {
			b := newBook(1)
			b.change(1, 0, 0)
			if kind != api.EntryUndo {
				b.undo(1)
			}
			b.mark(api.EntryAbort, 1)
			if between {
				b.note()
				b.change(2, 0, 0)
			}
			write(b, kind)
			wantCheck(t, fmt.Sprintf("%d behind an abort", kind), b.log, want)
		}
	}
	b := newBook(1)
	b.change(1, 0, 0)
	b.change(2, 0, 1)
	b.mark(api.EntryAbort, 1)
	b.change(2, 0, 0)
	b.note()
	b.add(api.Entry{Kind: api.EntryCheckpoint})
	b.add(api.Entry{Kind: api.EntryIndex, Ref: 1})
	b.mark(api.EntryAbort, 2)
	wantCheck(t, "others behind an abort", b.log, api.OK)
	rest := newBook(9)
	rest.txs[1] = 3
	rest.mark(api.EntryAbort, 1)
	wantCheck(t, "an abort behind a cut", rest.log, api.OK)
	rest.change(1, 0, 0)
	wantCheck(t, "a change behind it", rest.log, api.ErrChain)
}

// P7.5: an EntryEnd follows an EntryAbort, in the log or, if the transaction began before it, perhaps before it.
func TestCheckEnd(t *testing.T) {
	whole := func(first, before int, abort bool) api.Log {
		b := newBook(first)
		if before > 0 {
			b.txs[1] = before
		}
		b.undo(b.change(1, 0, 0))
		if abort {
			b.mark(api.EntryAbort, 1)
		}
		b.mark(api.EntryEnd, 1)
		return b.log
	}
	wantCheck(t, "with an abort", whole(1, 0, true), api.OK)
	wantCheck(t, "without an abort", whole(1, 0, false), api.ErrChain)
	wantCheck(t, "behind a cut, begun in the log", whole(9, 0, false), api.ErrChain)
	wantCheck(t, "behind a cut, begun in the log, with an abort", whole(9, 0, true), api.OK)
	wantCheck(t, "behind a cut, begun before", whole(9, 8, false), api.OK)
	wantCheck(t, "behind a cut, begun before, 1", whole(9, 1, false), api.OK)
	wantCheck(t, "behind a cut, begun before, with an abort", whole(9, 1, true), api.OK)
	b := newBook(9)
	b.txs[1] = 4
	b.mark(api.EntryEnd, 1)
	wantCheck(t, "an end alone", b.log, api.OK)
	b = newBook(9)
	b.change(2, 0, 0)
	b.mark(api.EntryAbort, 2)
	b.txs[1] = 9
	b.mark(api.EntryEnd, 1)
	wantCheck(t, "the abort of another one", b.log, api.ErrChain)
	b = newBook(1)
	b.change(1, 0, 0)
	b.mark(api.EntryAbort, 1)
	b.change(2, 0, 1)
	b.undo(b.change(2, 0, 2))
	b.mark(api.EntryEnd, 2)
	wantCheck(t, "the abort of another one, in a whole log", b.log, api.ErrChain)
}

// P7.5: at an EntryEnd, no change of its transaction that is in the log is pending.
func TestCheckEndPending(t *testing.T) {
	for undone := range 8 { // which of three changes are undone
		for _, first := range []int{1, 9} {
			b := newBook(first)
			if first > 1 {
				b.txs[1] = 2
			}
			b.change(2, 0, 0) // pending, but of another one
			for slot := range 3 {
				b.change(1, slot, slot)
			}
			b.mark(api.EntryAbort, 1)
			for slot := range 3 {
				if undone>>slot&1 == 1 {
					b.undo(first + 1 + slot)
				}
			}
			if first > 1 { // this one undoes nothing in the log
				b.add(api.Entry{Kind: api.EntryUndo, Tx: 1, Ref: 2, Change: api.Change{Page: 9}})
			}
			b.mark(api.EntryEnd, 1)
			want := api.ErrChain
			if undone == 7 {
				want = api.OK
			}
			wantCheck(t, fmt.Sprintf("of three, %b is undone", undone), b.log, want)
		}
	}
}

// rightLog is a random log that is right, of transactions that commit, are rolled back, go back to a savepoint, and run on.
func rightLog(r *rand.Rand, steps int) api.Log {
	b := newBook(1)
	pending := map[int][]int{}
	aborted := map[int]bool{}
	next := 3
	open := []int{1, 2}
	for range steps {
		i := r.Intn(len(open))
		tx := open[i]
		n := len(pending[tx])
		switch k := r.Intn(12); {
		case aborted[tx] && n == 0 || k == 0 && !aborted[tx] && b.txs[tx] > 0:
			kind := api.EntryCommit
			if aborted[tx] {
				kind = api.EntryEnd
			}
			b.mark(kind, tx)
			open[i] = next
			next++
		case (aborted[tx] || k < 4) && n > 0: // any change whose cell has no later one
			j := r.Intn(n)
			for m := j + 1; m < n; m++ {
				if sameCell(b.log.Entries[pending[tx][m]-1], b.log.Entries[pending[tx][j]-1]) {
					j = m
				}
			}
			b.undo(pending[tx][j])
			pending[tx] = slices.Delete(pending[tx], j, j+1)
		case k == 4 && b.txs[tx] > 0:
			b.mark(api.EntryAbort, tx)
			aborted[tx] = true
		case k == 5:
			b.note()
		case k == 6:
			b.add(api.Entry{Kind: api.EntryIndex, Change: api.Change{Page: r.Intn(3)}})
		case !aborted[tx]:
			pending[tx] = append(pending[tx], b.change(tx, r.Intn(3), r.Intn(2)))
		}
	}
	return b.log
}

func sameCell(a, b api.Entry) bool {
	return a.Change.Page == b.Change.Page && a.Change.Slot == b.Change.Slot
}

// spoiled is l with one or two fields of entries changed, but still valid.
func spoiled(r *rand.Rand, l api.Log) api.Log {
	for try := 0; try < 1+r.Intn(2); {
		other := with(l, l.First+r.Intn(len(l.Entries)), func(e *api.Entry) {
			switch r.Intn(9) {
			case 0:
				e.Tx = 1 + r.Intn(6)
			case 1:
				e.PrevTx = r.Intn(e.LSN)
			case 2:
				e.PrevPage = r.Intn(e.LSN)
			case 3:
				e.Ref = r.Intn(e.LSN)
			case 4:
				e.Kind = 1 + r.Intn(8)
			case 5:
				e.Change.Page = r.Intn(3)
			case 6:
				e.Change.Slot = r.Intn(2)
			case 7:
				e.Change.Before, e.Change.After = e.Change.After, e.Change.Before
			case 8:
				e.Kind, e.Tx, e.PrevPage, e.Ref, e.Change, e.Blob = 3+r.Intn(3), 1+r.Intn(6), 0, 0, api.Change{}, ""
			}
		})
		if journal.Valid(other) {
			l = other
			try++
		}
	}
	return l
}

// isRight is the chapter's list of conditions, one after the other, entry by entry.
func isRight(l api.Log) bool {
	for i, e := range l.Entries {
		before := l.Entries[:i]
		if e.Tx > 0 && !rightTx(l.First, before, e) {
			return false
		}
		if (e.Kind == api.EntryChange || e.Kind == api.EntryUndo) && !rightPage(l.First, before, e) {
			return false
		}
		if e.Kind == api.EntryUndo && !rightUndo(l, before, e) {
			return false
		}
		if e.Tx > 0 && !rightAbort(before, e) {
			return false
		}
	}
	return true
}

func rightTx(first int, before []api.Entry, e api.Entry) bool {
	last := 0
	for _, o := range before {
		if o.Tx == e.Tx {
			last = o.LSN
			if o.Kind == api.EntryCommit || o.Kind == api.EntryEnd {
				return false
			}
		}
	}
	return e.PrevTx == last || first > 1 && last == 0 && e.PrevTx != 0 && e.PrevTx < first
}

func rightPage(first int, before []api.Entry, e api.Entry) bool {
	for _, o := range slices.Backward(before) {
		if (o.Kind == api.EntryChange || o.Kind == api.EntryUndo) && o.Change.Page == e.Change.Page {
			return e.PrevPage == o.LSN
		}
	}
	return e.PrevPage < first
}

func undoneIn(entries []api.Entry, lsn int) bool {
	return slices.ContainsFunc(entries, func(e api.Entry) bool { return e.Kind == api.EntryUndo && e.Ref == lsn })
}

func rightUndo(l api.Log, before []api.Entry, e api.Entry) bool {
	if e.Ref >= l.First {
		done := l.Entries[e.Ref-l.First]
		inverse := api.Change{Page: done.Change.Page, Slot: done.Change.Slot, Before: done.Change.After, After: done.Change.Before}
		if done.Kind != api.EntryChange || done.Tx != e.Tx || e.Change != inverse {
			return false
		}
	}
	for _, o := range before {
		if o.Kind == api.EntryChange && o.Tx == e.Tx && sameCell(o, e) && o.LSN > e.Ref && !undoneIn(before, o.LSN) {
			return false
		}
	}
	return !undoneIn(before, e.Ref)
}

func rightAbort(before []api.Entry, e api.Entry) bool {
	aborted, earlier, known := false, e.PrevTx > 0, false
	for _, o := range before {
		if o.Tx != e.Tx {
			continue
		}
		if !known {
			earlier, known = o.PrevTx > 0, true
		}
		aborted = aborted || o.Kind == api.EntryAbort
		if e.Kind == api.EntryEnd && o.Kind == api.EntryChange && !undoneIn(before, o.LSN) {
			return false
		}
	}
	if e.Kind == api.EntryEnd {
		return aborted || earlier
	}
	return !aborted || e.Kind == api.EntryUndo
}

// P7.5: Check agrees with the chapter's list, in logs that are right and in logs with something wrong.
func TestCheckAsListed(t *testing.T) {
	r := rand.New(rand.NewSource(7))
	counts := map[bool]int{}
	for range 20000 {
		l := rightLog(r, 5+r.Intn(40))
		l = cut(t, l, 1+r.Intn(len(l.Entries)/2+1))
		if r.Intn(4) > 0 {
			l = spoiled(r, l)
		}
		want := isRight(l)
		counts[want]++
		if got := check(t, l); (got == api.OK) != want || !want && got != api.ErrChain {
			t.Fatalf("%d, want right: %v; %s", got, want, show(l))
		}
	}
	if counts[true] < 3000 || counts[false] < 3000 {
		t.Errorf("the logs are too much alike: %v", counts)
	}
}

// Consequences: a beginning of a right log is right, and the rest of it, cut at any place.
func TestConsequences(t *testing.T) {
	r := rand.New(rand.NewSource(1))
	for range 30 {
		l := rightLog(r, 60)
		for n := range len(l.Entries) + 1 {
			begin := api.Log{First: 1, Entries: l.Entries[:n], Durable: n}
			wantCheck(t, fmt.Sprint("a beginning of ", n), begin, api.OK)
			wantCheck(t, fmt.Sprint("a rest behind ", n), cut(t, l, n+1), api.OK)
			for first := 1; first <= n+1; first += 7 {
				wantCheck(t, "a part", cut(t, begin, first), api.OK)
			}
		}
	}
}

// pageAsListed follows the chapter's text number by number.
func pageAsListed(l api.Log, page, last, above int) ([]int, api.Errno) {
	var numbers []int
	n := last
	for n > above {
		i := slices.IndexFunc(l.Entries, func(e api.Entry) bool { return e.LSN == n })
		if i < 0 {
			return nil, api.ErrGone
		}
		e := l.Entries[i]
		if e.Kind != api.EntryChange && e.Kind != api.EntryUndo || e.Change.Page != page {
			return nil, api.ErrChain
		}
		numbers = slices.Insert(numbers, 0, n)
		n = e.PrevPage
	}
	if n < above {
		return nil, api.ErrChain
	}
	return numbers, api.OK
}

// txAsListed and pendingAsListed do so, too.
func txAsListed(l api.Log, last int) ([]int, api.Errno) {
	var numbers []int
	tx := -1
	for n := last; n > 0; {
		i := slices.IndexFunc(l.Entries, func(e api.Entry) bool { return e.LSN == n })
		if i < 0 {
			return nil, api.ErrGone
		}
		if tx < 0 {
			tx = l.Entries[i].Tx
		}
		if l.Entries[i].Tx != tx || tx == 0 {
			return nil, api.ErrChain
		}
		numbers = slices.Insert(numbers, 0, n)
		n = l.Entries[i].PrevTx
	}
	return numbers, api.OK
}

func pendingAsListed(l api.Log, last int) ([]int, api.Errno) {
	numbers, code := txAsListed(l, last)
	var pending []int
	for _, n := range numbers {
		undone := false
		for _, m := range numbers {
			u := l.Entries[m-l.First]
			undone = undone || u.Kind == api.EntryUndo && u.Ref == n
		}
		if l.Entries[n-l.First].Kind == api.EntryChange && !undone {
			pending = append(pending, n)
		}
	}
	return pending, code
}

// P7.1, P7.2, P7.3, P7.4: the walks agree with the chapter's text in random logs, right and wrong, whole and cut, for all numbers about the log.
func TestWalksAsListed(t *testing.T) {
	r := rand.New(rand.NewSource(3))
	codes := map[string]int{}
	for range 250 {
		l := rightLog(r, 10+r.Intn(20))
		l = cut(t, l, 1+r.Intn(len(l.Entries)/2+1))
		for range r.Intn(4) {
			l = spoiled(r, l)
		}
		end := l.First + len(l.Entries)
		heads := make([]int, maxPages)
		for page := range 3 {
			for last := range end + 1 {
				for above := range end + 1 {
					want, code := pageAsListed(l, page, last, above)
					codes[fmt.Sprint("page ", code)]++
					got, e := chain.Page(l, page, last, above)
					if e != code || !slices.Equal(numbers(l, got), want) {
						t.Fatalf("page %d from %d above %d: %v, %d; want %v, %d; log %s", page, last, above, numbers(l, got), e, want, code, show(l))
					}
				}
				if l.First <= last && last < end && l.Entries[last-l.First].Change.Page == page && l.Entries[last-l.First].Kind <= api.EntryUndo {
					heads[page] = last
				}
			}
		}
		if got := headsOf(t, l); !slices.Equal(got, heads) {
			t.Fatalf("heads %v, want %v; log %s", got, heads, show(l))
		}
		for last := range end + 1 {
			want, code := txAsListed(l, last)
			codes[fmt.Sprint("tx ", code)]++
			wantTx(t, l, last, want, code)
			want, code = pendingAsListed(l, last)
			wantPending(t, l, last, want, code)
		}
	}
	for _, name := range []string{"page 0", "page 13", "page 14", "tx 0", "tx 13", "tx 14"} {
		if codes[name] < 100 {
			t.Errorf("%s is too seldom: %v", name, codes)
		}
	}
}

// P7.1, P7.2, P7.4: walks through a log with as many entries, and as great numbers, as there may be.
func TestLongWalks(t *testing.T) {
	for _, first := range []int{1, maxLSN - maxEntries + 1} {
		b := newBook(first)
		if first > 1 {
			b.pages[63] = first - 1
		}
		var all, pending []int
		for i := range maxEntries {
			if i%2 == 1 {
				all = append(all, b.undo(first+i-1))
				continue
			}
			all = append(all, b.change(1<<30, 63, 15))
		}
		last := first + maxEntries - 1
		wantPage(t, b.log, 63, last, first-1, all, api.OK)
		wantPage(t, b.log, 63, last, last-1, all[maxEntries-1:], api.OK)
		wantTx(t, b.log, last, all, api.OK)
		wantPending(t, b.log, last, pending, api.OK)
		wantPending(t, b.log, last-1, []int{last - 1}, api.OK)
		wantCheck(t, "a long log", b.log, api.OK)
	}
}
