package locks_test

import (
	"cmp"
	"fmt"
	"math"
	"math/rand"
	"slices"
	"testing"

	"pagemend/api"
	"pagemend/locks"
)

const (
	maxLocks = 1024
	maxTx    = 1 << 30
	maxPages = 64
	slots    = 16
)

// s is a shared grant, x an exclusive one.
func s(tx, page, slot int) api.Grant { return grant(tx, page, slot, 1) }

func x(tx, page, slot int) api.Grant { return grant(tx, page, slot, 2) }

func grant(tx, page, slot, mode int) api.Grant {
	return api.Grant{Tx: tx, Lock: api.Lock{Page: page, Slot: slot}, Mode: mode}
}

func table(held []api.Grant, waiting ...api.Grant) api.Locks {
	return api.Locks{Held: held, Waiting: waiting}
}

func held(l ...api.Grant) []api.Grant { return l }

// same reports whether two tables are equal; nil and an empty list are (R3).
func same(a, b api.Locks) bool {
	return slices.Equal(a.Held, b.Held) && slices.Equal(a.Waiting, b.Waiting)
}

// show tells a table in short.
func show(t api.Locks) string {
	if len(t.Held)+len(t.Waiting) > 40 {
		return fmt.Sprintf("%d held, %d waiting", len(t.Held), len(t.Waiting))
	}
	return fmt.Sprintf("held %v waiting %v", t.Held, t.Waiting)
}

// kept calls do with the table in new memory with spare capacity, and checks that this memory stays (R2).
func kept(t *testing.T, l api.Locks, do func(api.Locks)) {
	t.Helper()
	spare := grant(-7, -7, -7, -7)
	h := append(slices.Clone(l.Held), spare, spare, spare)
	w := append(slices.Clone(l.Waiting), spare, spare, spare)
	hBefore, wBefore := slices.Clone(h), slices.Clone(w)
	do(api.Locks{Held: h[:len(l.Held)], Waiting: w[:len(l.Waiting)]})
	if !slices.Equal(h, hBefore) || !slices.Equal(w, wBefore) {
		t.Errorf("the argument was changed: %s", show(l))
	}
}

func wantValid(t *testing.T, name string, l api.Locks, want bool) {
	t.Helper()
	kept(t, l, func(l api.Locks) {
		if got := locks.Valid(l); got != want {
			t.Errorf("%s: Valid %v, want %v: %s", name, got, want, show(l))
		}
	})
}

func wantMode(t *testing.T, name string, l api.Locks, tx int, k api.Lock, want int) {
	t.Helper()
	kept(t, l, func(l api.Locks) {
		if got := locks.Mode(l, tx, k); got != want {
			t.Errorf("%s: Mode of %d for %v is %d, want %d: %s", name, tx, k, got, want, show(l))
		}
	})
}

func wantWaiting(t *testing.T, name string, l api.Locks, tx int, want api.Grant, wantOk bool) {
	t.Helper()
	kept(t, l, func(l api.Locks) {
		if got, ok := locks.Waiting(l, tx); got != want || ok != wantOk {
			t.Errorf("%s: Waiting of %d is %v %v, want %v %v: %s", name, tx, got, ok, want, wantOk, show(l))
		}
	})
}

func wantRequest(t *testing.T, name string, l api.Locks, g api.Grant, want api.Locks, wantHeld bool, wantErr api.Errno) {
	t.Helper()
	kept(t, l, func(l api.Locks) {
		got, holds, e := locks.Request(l, g)
		if !same(got, want) || holds != wantHeld || e != wantErr {
			t.Errorf("%s: Request of %v in %s: %s, %v, %d; want %s, %v, %d", name, g, show(l), show(got), holds, e, show(want), wantHeld, wantErr)
		}
	})
}

// refused checks that a request has an error, and nothing beside it (R4).
func refused(t *testing.T, name string, l api.Locks, g api.Grant, want api.Errno) {
	t.Helper()
	wantRequest(t, name, l, g, api.Locks{}, false, want)
}

func wantTable(t *testing.T, name string, l, want api.Locks, do func(api.Locks) api.Locks) {
	t.Helper()
	kept(t, l, func(l api.Locks) {
		if got := do(l); !same(got, want) {
			t.Errorf("%s: of %s: %s, want %s", name, show(l), show(got), show(want))
		}
	})
}

func cancel(tx int) func(api.Locks) api.Locks {
	return func(l api.Locks) api.Locks { return locks.Cancel(l, tx) }
}

func drop(tx, page, slot int) func(api.Locks) api.Locks {
	return func(l api.Locks) api.Locks { return locks.Drop(l, tx, api.Lock{Page: page, Slot: slot}) }
}

func release(tx int) func(api.Locks) api.Locks {
	return func(l api.Locks) api.Locks { return locks.Release(l, tx) }
}

// full is n shared grants of the transaction 1, of all cells from the first one on, n at most 1024.
func full(n int) []api.Grant {
	var l []api.Grant
	for i := range n {
		l = append(l, s(1, i/slots, i%slots))
	}
	return l
}

// The models follow the chapter's text, with no regard to how long they take.

func conflicts(a, b api.Grant) bool {
	return a.Tx != b.Tx && a.Lock == b.Lock && (a.Mode == 2 || b.Mode == 2)
}

func rightGrant(g api.Grant) bool {
	return !(g.Tx < 1 || g.Tx > maxTx || g.Lock.Page < 0 || g.Lock.Page > maxPages-1 || g.Lock.Slot < 0 || g.Lock.Slot > slots-1) && (g.Mode == 1 || g.Mode == 2)
}

func compare(a, b api.Grant) int {
	return slices.Compare([]int{a.Lock.Page, a.Lock.Slot, a.Tx}, []int{b.Lock.Page, b.Lock.Slot, b.Tx})
}

func rightTable(l api.Locks) bool {
	for _, g := range slices.Concat(l.Held, l.Waiting) {
		if !rightGrant(g) {
			return false
		}
	}
	for i, g := range l.Held {
		for _, h := range l.Held[i+1:] {
			if compare(g, h) >= 0 || conflicts(g, h) {
				return false
			}
		}
	}
	for i, w := range l.Waiting {
		for _, v := range l.Waiting[i+1:] {
			if v.Tx == w.Tx {
				return false
			}
		}
		for _, h := range l.Held {
			if h.Tx == w.Tx && h.Lock == w.Lock && h.Mode >= w.Mode {
				return false
			}
		}
	}
	return len(l.Held)+len(l.Waiting) <= maxLocks
}

func modeOf(l api.Locks, tx int, k api.Lock) int {
	for _, h := range l.Held {
		if h.Tx == tx && h.Lock == k {
			return h.Mode
		}
	}
	return 0
}

// blocked reports whether the grant of this place in Waiting cannot be held.
func blocked(l api.Locks, i int) bool {
	for _, g := range slices.Concat(l.Held, l.Waiting[:i]) {
		if conflicts(g, l.Waiting[i]) {
			return true
		}
	}
	return false
}

// settle goes through Waiting from the front, again and again until nothing changes.
func settle(l api.Locks) api.Locks {
	l = api.Locks{Held: slices.Clone(l.Held), Waiting: slices.Clone(l.Waiting)}
	for changed := true; changed; {
		changed = false
		for i := 0; i < len(l.Waiting); i++ {
			if blocked(l, i) {
				continue
			}
			g := l.Waiting[i]
			l.Held = slices.DeleteFunc(l.Held, func(h api.Grant) bool { return h.Tx == g.Tx && h.Lock == g.Lock })
			l.Held = append(l.Held, g)
			slices.SortFunc(l.Held, compare)
			l.Waiting = slices.Delete(l.Waiting, i, i+1)
			changed = true
			i--
		}
	}
	return l
}

func request(l api.Locks, g api.Grant) (api.Locks, bool, api.Errno) {
	switch {
	case !rightTable(l):
		return api.Locks{}, false, api.ErrLock
	case !rightGrant(g):
		return api.Locks{}, false, api.ErrRange
	}
	for _, w := range l.Waiting {
		if w.Tx == g.Tx && w != g {
			return api.Locks{}, false, api.ErrState
		}
	}
	if slices.Contains(l.Waiting, g) {
		return l, false, api.OK
	}
	weaker := modeOf(l, g.Tx, g.Lock)
	if weaker >= g.Mode {
		return l, true, api.OK
	}
	if len(l.Held)+len(l.Waiting) >= maxLocks {
		return api.Locks{}, false, api.ErrLimit
	}
	at := len(l.Waiting)
	for i := len(l.Waiting) - 1; i >= 0 && weaker != 0; i-- {
		if w := l.Waiting[i]; w.Lock == g.Lock && modeOf(l, w.Tx, w.Lock) == 0 {
			at = i
		}
	}
	l.Waiting = slices.Concat(l.Waiting[:at], []api.Grant{g}, l.Waiting[at:])
	l = settle(l)
	return l, slices.Contains(l.Held, g), api.OK
}

// removed is the settled table without the grants that are held, and without those that wait, of which this is true; the table itself if it is not valid.
func removed(l api.Locks, fromHeld, fromWaiting func(api.Grant) bool) api.Locks {
	if !rightTable(l) {
		return l
	}
	rest := api.Locks{}
	for _, g := range l.Held {
		if !fromHeld(g) {
			rest.Held = append(rest.Held, g)
		}
	}
	for _, g := range l.Waiting {
		if !fromWaiting(g) {
			rest.Waiting = append(rest.Waiting, g)
		}
	}
	return settle(rest)
}

// checkAll compares all functions with the models, for a transaction and a lock.
func checkAll(t *testing.T, l api.Locks, tx int, k api.Lock) {
	t.Helper()
	right := rightTable(l)
	wantValid(t, "model", l, right)
	mode, grant, waits := 0, api.Grant{}, false
	if right {
		mode = modeOf(l, tx, k)
		for _, w := range l.Waiting {
			if w.Tx == tx {
				grant, waits = w, true
			}
		}
	}
	wantMode(t, "model", l, tx, k, mode)
	wantWaiting(t, "model", l, tx, grant, waits)
	for mode := range 4 {
		g := api.Grant{Tx: tx, Lock: k, Mode: mode}
		want, holds, e := request(l, g)
		wantRequest(t, "model", l, g, want, holds, e)
	}
	none := func(api.Grant) bool { return false }
	all := func(g api.Grant) bool { return g.Tx == tx }
	one := func(g api.Grant) bool { return g.Tx == tx && g.Lock == k }
	wantTable(t, "Cancel", l, removed(l, none, all), cancel(tx))
	wantTable(t, "Drop", l, removed(l, one, none), drop(tx, k.Page, k.Slot))
	wantTable(t, "Release", l, removed(l, all, all), release(tx))
}

// P8.1: a table is valid if all that the chapter lists is true of it.
func TestValid(t *testing.T) {
	one := full(maxLocks)
	for _, c := range []struct {
		name string
		l    api.Locks
		want bool
	}{
		{"empty", api.Locks{}, true},
		{"empty lists", table(held()), true},
		{"several", table(held(s(1, 0, 0), s(2, 0, 0), x(3, 0, 1), x(1, 2, 0)), x(1, 0, 0), s(4, 2, 0), x(2, 0, 1)), true},
		{"what waits could be held", table(nil, s(1, 0, 0), x(2, 0, 1), s(3, 0, 0)), true},
		{"order by page", table(held(s(1, 1, 0), s(1, 0, 1))), false},
		{"order by slot", table(held(s(1, 1, 1), s(1, 1, 0))), false},
		{"order by transaction", table(held(s(2, 1, 1), s(1, 1, 1))), false},
		{"page before slot and transaction", table(held(s(9, 0, 9), s(1, 1, 0))), true},
		{"slot before transaction", table(held(s(9, 1, 0), s(1, 1, 1))), true},
		{"one grant twice", table(held(s(1, 1, 1), s(1, 1, 1))), false},
		{"one lock in both modes", table(held(s(1, 1, 1), x(1, 1, 1))), false},
		{"wrong at the end", table(held(s(1, 0, 0), s(2, 0, 0), s(3, 0, 0), s(2, 0, 0))), false},
		{"shared by all", table(held(s(1, 1, 1), s(2, 1, 1), s(3, 1, 1))), true},
		{"shared and exclusive", table(held(s(1, 1, 1), x(2, 1, 1))), false},
		{"exclusive and shared", table(held(x(1, 1, 1), s(2, 1, 1))), false},
		{"exclusive twice", table(held(x(1, 1, 1), x(2, 1, 1))), false},
		{"conflict apart", table(held(x(1, 1, 1), s(2, 1, 1), s(3, 1, 1))), false},
		{"conflict in the middle", table(held(s(1, 1, 1), x(2, 1, 1), s(3, 1, 1))), false},
		{"conflict at the end", table(held(s(1, 0, 0), s(1, 1, 1), s(2, 1, 1), x(3, 1, 1))), false},
		{"exclusive on other slots", table(held(x(1, 1, 1), x(2, 1, 2))), true},
		{"exclusive on other pages", table(held(x(1, 1, 1), x(2, 2, 1))), true},
		{"twice in Waiting", table(nil, s(1, 0, 0), s(1, 0, 0)), false},
		{"twice in Waiting, other locks, apart", table(nil, s(1, 0, 0), s(2, 0, 0), s(1, 1, 0)), false},
		{"waits shared for what it holds shared", table(held(s(1, 0, 0)), s(1, 0, 0)), false},
		{"waits exclusive for what it holds exclusive", table(held(x(1, 0, 0)), x(1, 0, 0)), false},
		{"waits shared for what it holds exclusive", table(held(x(1, 0, 0)), s(1, 0, 0)), false},
		{"waits exclusive for what it holds shared", table(held(s(1, 0, 0)), x(1, 0, 0)), true},
		{"waits for what another one holds", table(held(x(1, 0, 0)), s(2, 0, 0)), true},
		{"holds another slot", table(held(x(1, 0, 1)), s(1, 0, 0)), true},
		{"the second one in Waiting holds it", table(held(x(1, 0, 0)), s(2, 0, 0), x(1, 0, 0)), false},
		{"1023 grants", table(one[:maxLocks-1]), true},
		{"1024 grants", table(one), true},
		{"1025 grants", table(slices.Insert(slices.Clone(one), 1, s(2, 0, 0))), false},
		{"1023 and 1", table(one[:maxLocks-1], s(2, 0, 0)), true},
		{"1024 and 1", table(one, x(2, 0, 0)), false},
		{"1023 and 2", table(one[:maxLocks-1], x(2, 0, 0), s(3, 0, 0)), false},
	} {
		wantValid(t, c.name, c.l, c.want)
		if rightTable(c.l) != c.want {
			t.Errorf("%s: the model is wrong", c.name)
		}
	}
}

// bounds are grants with one number at or behind a bound, and whether they are valid.
func bounds() map[api.Grant]bool {
	l := map[api.Grant]bool{}
	for n, ok := range map[int]bool{1: true, maxTx: true, 0: false, maxTx + 1: false, -1: false, math.MinInt: false, math.MaxInt: false} {
		l[s(n, 3, 3)], l[x(n, 3, 3)] = ok, ok
	}
	for n, ok := range map[int]bool{0: true, maxPages - 1: true, -1: false, maxPages: false, math.MinInt: false, math.MaxInt: false} {
		l[s(3, n, 3)], l[x(3, n, 3)] = ok, ok
	}
	for n, ok := range map[int]bool{0: true, slots - 1: true, -1: false, slots: false, math.MinInt: false, math.MaxInt: false} {
		l[s(3, 3, n)], l[x(3, 3, n)] = ok, ok
	}
	for n, ok := range map[int]bool{1: true, 2: true, 0: false, 3: false, -1: false, math.MinInt: false, math.MaxInt: false} {
		l[grant(3, 3, 3, n)] = ok
	}
	return l
}

// P8.1, P8.2: the bounds of a grant, in Held, in Waiting, in a request.
func TestBounds(t *testing.T) {
	for g, ok := range bounds() {
		wantValid(t, "held", table(held(g)), ok)
		wantValid(t, "waiting", table(nil, g), ok)
		wantValid(t, "waiting behind", table(held(x(9, 9, 9)), x(8, 9, 9), g), ok)
		if ok {
			wantRequest(t, "bound", api.Locks{}, g, table(held(g)), true, api.OK)
			wantMode(t, "bound", table(held(g)), g.Tx, g.Lock, g.Mode)
			wantWaiting(t, "bound", table(nil, g), g.Tx, g, true)
			for _, do := range []func(api.Locks) api.Locks{drop(g.Tx, g.Lock.Page, g.Lock.Slot), release(g.Tx)} {
				wantTable(t, "bound", table(held(g)), api.Locks{}, do)
			}
			wantTable(t, "bound", table(nil, g), api.Locks{}, cancel(g.Tx))
			continue
		}
		refused(t, "bound", api.Locks{}, g, api.ErrRange)
		some := table(held(s(3, 3, 3), s(4, 3, 3)), x(4, 3, 3))
		wantMode(t, "no such grant", some, g.Tx, api.Lock{Page: g.Lock.Page, Slot: g.Lock.Slot}, modeOf(some, g.Tx, g.Lock))
	}
	some := table(held(s(3, 3, 3)), x(4, 3, 3))
	for _, tx := range []int{0, -1, maxTx + 1, math.MinInt, math.MaxInt} {
		wantWaiting(t, "no such transaction", some, tx, api.Grant{}, false)
		wantTable(t, "no such transaction", some, some, cancel(tx))
		wantTable(t, "no such transaction", some, some, release(tx))
		wantTable(t, "no such transaction", some, some, drop(tx, 3, 3))
	}
	for _, n := range []int{-1, maxPages, math.MinInt, math.MaxInt} {
		wantTable(t, "no such page", some, some, drop(3, n, 3))
		wantTable(t, "no such slot", some, some, drop(3, 3, n))
	}
}

// P8.1: Mode is that of the grant that is held; what is waited for does not count.
func TestMode(t *testing.T) {
	l := table(held(s(1, 0, 0), s(2, 0, 0), s(1, 0, 1), x(2, 1, 0), s(3, 63, 15)), x(1, 0, 0), s(3, 1, 0))
	for _, c := range []struct{ tx, page, slot, want int }{
		{1, 0, 0, 1}, {2, 0, 0, 1}, {3, 0, 0, 0}, {1, 0, 1, 1}, {2, 0, 1, 0}, {2, 1, 0, 2}, {1, 1, 0, 0}, {3, 1, 0, 0}, {3, 63, 15, 1}, {3, 63, 14, 0}, {4, 63, 15, 0}, {0, 0, 0, 0},
	} {
		wantMode(t, "several", l, c.tx, api.Lock{Page: c.page, Slot: c.slot}, c.want)
	}
	wantMode(t, "empty", api.Locks{}, 1, api.Lock{}, 0)
	all := table(full(maxLocks))
	for _, g := range all.Held {
		if got := locks.Mode(all, 1, g.Lock); got != 1 {
			t.Errorf("Mode for %v is %d", g.Lock, got)
		}
	}
}

// P8.1: Waiting is the grant that is waited for, wherever it stands.
func TestWaiting(t *testing.T) {
	l := table(held(s(1, 0, 0), s(2, 0, 0), x(3, 0, 1)), x(1, 0, 0), s(2, 0, 1), x(5, 0, 1))
	wantWaiting(t, "an upgrade", l, 1, x(1, 0, 0), true)
	wantWaiting(t, "in the middle", l, 2, s(2, 0, 1), true)
	wantWaiting(t, "the last one", l, 5, x(5, 0, 1), true)
	wantWaiting(t, "holds only", l, 3, api.Grant{}, false)
	wantWaiting(t, "nothing there", l, 4, api.Grant{}, false)
	wantWaiting(t, "empty", api.Locks{}, 1, api.Grant{}, false)
}

// wrong are tables that are not valid, each for a reason of its own, with what would be found in them otherwise: the transaction 1 holds 0.0 and 2 waits for it.
func wrong() map[string]api.Locks {
	return map[string]api.Locks{
		"grant held":    table(held(s(1, 0, 0), s(1, 64, 0)), x(2, 0, 0)),
		"grant waiting": table(held(s(1, 0, 0)), x(2, 0, 0), grant(3, 0, 0, 3)),
		"order":         table(held(s(1, 0, 0), s(1, 2, 0), s(1, 1, 0)), x(2, 0, 0)),
		"twice":         table(held(s(1, 0, 0), s(1, 0, 0)), x(2, 0, 0)),
		"conflict":      table(held(s(1, 0, 0), x(3, 0, 0)), x(2, 0, 0)),
		"waits twice":   table(held(s(1, 0, 0)), x(2, 0, 0), s(3, 0, 0), s(3, 0, 1)),
		"holds it":      table(held(s(1, 0, 0)), x(2, 0, 0), s(1, 0, 0)),
		"too many":      table(full(maxLocks), x(2, 0, 0)),
	}
}

// P8.1, P8.2, P8.3: in a table that is not valid nothing is found, requested or removed.
func TestNotValid(t *testing.T) {
	for name, l := range wrong() {
		wantValid(t, name, l, false)
		for tx := range 4 {
			wantMode(t, name, l, tx, api.Lock{}, 0)
			wantWaiting(t, name, l, tx, api.Grant{}, false)
			refused(t, name, l, s(tx, 0, 0), api.ErrLock)
			refused(t, name, l, x(tx, 0, 0), api.ErrLock)
			wantTable(t, name, l, l, cancel(tx))
			wantTable(t, name, l, l, drop(tx, 0, 0))
			wantTable(t, name, l, l, release(tx))
		}
	}
}

// P8.2: what is requested is held, or waited for.
func TestRequest(t *testing.T) {
	l := table(held(s(1, 0, 0), s(2, 0, 0), x(1, 0, 1), s(3, 2, 0)), x(3, 0, 0))
	for _, c := range []struct {
		name  string
		l     api.Locks
		g     api.Grant
		want  api.Locks
		holds bool
	}{
		{"first, shared", api.Locks{}, s(1, 0, 0), table(held(s(1, 0, 0))), true},
		{"first, exclusive", api.Locks{}, x(1, 0, 0), table(held(x(1, 0, 0))), true},
		{"shared, held shared", l, s(1, 0, 0), l, true},
		{"shared, held exclusive", l, s(1, 0, 1), l, true},
		{"exclusive, held exclusive", l, x(1, 0, 1), l, true},
		{"waited for already", l, x(3, 0, 0), l, false},
		{"free, at the front", l, x(1, 0, 2), table(held(s(1, 0, 0), s(2, 0, 0), x(1, 0, 1), x(1, 0, 2), s(3, 2, 0)), x(3, 0, 0)), true},
		{"free, at the end", l, s(1, 2, 1), table(held(s(1, 0, 0), s(2, 0, 0), x(1, 0, 1), s(3, 2, 0), s(1, 2, 1)), x(3, 0, 0)), true},
		{"shared with another one", l, s(1, 2, 0), table(held(s(1, 0, 0), s(2, 0, 0), x(1, 0, 1), s(1, 2, 0), s(3, 2, 0)), x(3, 0, 0)), true},
		{"shared, held exclusive by another one", l, s(2, 0, 1), table(l.Held, x(3, 0, 0), s(2, 0, 1)), false},
		{"exclusive, held exclusive by another one", l, x(2, 0, 1), table(l.Held, x(3, 0, 0), x(2, 0, 1)), false},
		{"exclusive, held shared by another one", l, x(1, 2, 0), table(l.Held, x(3, 0, 0), x(1, 2, 0)), false},
		{"shared, behind one that waits for it exclusive", l, s(4, 0, 0), table(l.Held, x(3, 0, 0), s(4, 0, 0)), false},
		{"waits, but not for this transaction", l, s(4, 2, 0), table(held(s(1, 0, 0), s(2, 0, 0), x(1, 0, 1), s(3, 2, 0), s(4, 2, 0)), x(3, 0, 0)), true},
		{"held by the transaction with the least number", table(held(x(1, 0, 0))), s(2, 0, 0), table(held(x(1, 0, 0)), s(2, 0, 0)), false},
		{"held by the transaction with the greatest number", table(held(x(maxTx, 0, 0))), s(1, 0, 0), table(held(x(maxTx, 0, 0)), s(1, 0, 0)), false},
		{"requested by the transaction with the greatest number", table(held(s(1, 0, 0))), x(maxTx, 0, 0), table(held(s(1, 0, 0)), x(maxTx, 0, 0)), false},
		{"what could be held, waited for already", table(nil, s(1, 0, 0)), s(1, 0, 0), table(nil, s(1, 0, 0)), false},
		{"what is held, while others could be held", table(held(s(1, 0, 0)), s(2, 0, 0)), s(1, 0, 0), table(held(s(1, 0, 0)), s(2, 0, 0)), true},
		{"new, while others could be held", table(nil, x(3, 0, 0), x(2, 1, 0), s(1, 0, 0)), s(4, 0, 0), table(held(x(3, 0, 0), x(2, 1, 0)), s(1, 0, 0), s(4, 0, 0)), false},
	} {
		wantRequest(t, c.name, c.l, c.g, c.want, c.holds, api.OK)
	}
}

// P8.2: an upgrade passes the requests for its lock that are none.
func TestUpgrade(t *testing.T) {
	two := held(s(1, 0, 0), s(2, 0, 0), x(8, 1, 1))
	four := held(s(1, 0, 0), s(2, 0, 0), s(3, 0, 0), x(4, 0, 1), x(8, 1, 1))
	for _, c := range []struct {
		name    string
		held    []api.Grant
		waiting []api.Grant
		want    []api.Grant
	}{
		{"no other one waits", two, nil, held(x(1, 0, 0))},
		{"one for another slot waits", held(s(1, 0, 0), s(2, 0, 0), x(8, 0, 1)), held(x(5, 0, 1)), held(x(5, 0, 1), x(1, 0, 0))},
		{"one for another page waits", held(s(1, 0, 0), s(2, 0, 0), x(8, 1, 0)), held(x(5, 1, 0)), held(x(5, 1, 0), x(1, 0, 0))},
		{"before an exclusive one", two, held(x(5, 0, 0)), held(x(1, 0, 0), x(5, 0, 0))},
		{"before the first one", two, held(x(5, 0, 0), s(6, 0, 0), x(7, 0, 0)), held(x(1, 0, 0), x(5, 0, 0), s(6, 0, 0), x(7, 0, 0))},
		{"before one that holds another lock", four, held(s(6, 1, 1), x(4, 0, 0)), held(s(6, 1, 1), x(1, 0, 0), x(4, 0, 0))},
		{"behind another upgrade", four, held(x(2, 0, 0)), held(x(2, 0, 0), x(1, 0, 0))},
		{"behind two", four, held(x(3, 0, 0), x(2, 0, 0)), held(x(3, 0, 0), x(2, 0, 0), x(1, 0, 0))},
		{"behind an upgrade, before one that is none", four, held(x(3, 0, 0), x(5, 0, 0)), held(x(3, 0, 0), x(1, 0, 0), x(5, 0, 0))},
		{"before one that is none, which stands before an upgrade", four, held(x(5, 0, 0), x(3, 0, 0)), held(x(1, 0, 0), x(5, 0, 0), x(3, 0, 0))},
		{"other locks between", four, held(s(5, 1, 1), x(2, 0, 0), s(6, 0, 1), x(7, 1, 1), x(9, 0, 0), s(10, 0, 1)), held(s(5, 1, 1), x(2, 0, 0), s(6, 0, 1), x(7, 1, 1), x(1, 0, 0), x(9, 0, 0), s(10, 0, 1))},
		{"other locks behind", four, held(x(2, 0, 0), s(6, 0, 1), x(7, 1, 1)), held(x(2, 0, 0), s(6, 0, 1), x(7, 1, 1), x(1, 0, 0))},
	} {
		wantRequest(t, c.name, table(c.held, c.waiting...), x(1, 0, 0), table(c.held, c.want...), false, api.OK)
	}
	at := held(s(1, 0, 0), x(8, 1, 1))
	to := held(x(1, 0, 0), x(8, 1, 1))
	wantRequest(t, "at once", table(at), x(1, 0, 0), table(to), true, api.OK)
	wantRequest(t, "at once, others wait for it", table(at, x(5, 0, 0), s(6, 0, 0)), x(1, 0, 0), table(to, x(5, 0, 0), s(6, 0, 0)), true, api.OK)
	wantRequest(t, "at once, others wait for others", table(at, x(5, 1, 1)), x(1, 0, 0), table(to, x(5, 1, 1)), true, api.OK)
	wantRequest(t, "no upgrade passes nobody", table(two, x(5, 0, 0), s(6, 0, 0)), x(7, 0, 0), table(two, x(5, 0, 0), s(6, 0, 0), x(7, 0, 0)), false, api.OK)
	wantRequest(t, "who holds another lock passes nobody", table(four, x(5, 0, 0)), x(4, 0, 0), table(four, x(5, 0, 0), x(4, 0, 0)), false, api.OK)
	wantTable(t, "the upgrades are held in their order", table(two, x(2, 0, 0), x(1, 0, 0), x(5, 0, 0)), table(held(x(1, 0, 0), x(8, 1, 1)), x(5, 0, 0)), release(2))
}

// P8.2: the errors, the first one in the chapter's order where several apply.
func TestErrors(t *testing.T) {
	two := held(s(1, 0, 0), s(2, 0, 0), x(2, 0, 1))
	waits := table(two, x(1, 0, 0), x(3, 0, 0))
	refused(t, "another lock", waits, s(1, 5, 5), api.ErrState)
	refused(t, "another slot", waits, x(1, 0, 2), api.ErrState)
	refused(t, "another page", waits, x(3, 1, 0), api.ErrState)
	refused(t, "another mode, which it holds", waits, s(1, 0, 0), api.ErrState)
	refused(t, "another mode", waits, s(3, 0, 0), api.ErrState)
	refused(t, "another lock, which it holds", table(two, s(1, 0, 1)), s(1, 0, 0), api.ErrState)
	refused(t, "another lock, which it holds in a weaker mode", table(two, s(1, 0, 1)), x(1, 0, 0), api.ErrState)
	refused(t, "not valid, and waits", waits, grant(1, 0, 0, 3), api.ErrRange)
	refused(t, "not valid, and waits for nothing", waits, s(2, 0, 16), api.ErrRange)

	all := full(maxLocks)
	most := full(maxLocks - 1)
	last := api.Lock{Page: maxPages - 1, Slot: slots - 1}
	queued := table(most, x(2, 0, 0))
	refused(t, "full", table(all), s(2, 0, 0), api.ErrLimit)
	refused(t, "full, and an upgrade", table(all), x(1, 0, 0), api.ErrLimit)
	refused(t, "full with one that waits", queued, s(1, last.Page, last.Slot), api.ErrLimit)
	refused(t, "full, not valid", table(all), s(0, 0, 0), api.ErrRange)
	refused(t, "full, waits for another grant", queued, x(2, 0, 1), api.ErrState)
	refused(t, "full, waits for another mode", queued, s(2, 0, 0), api.ErrState)
	refused(t, "full, not valid, and waits for another grant", queued, x(2, 0, -1), api.ErrRange)
	wantRequest(t, "full, but held", table(all), s(1, 7, 7), table(all), true, api.OK)
	wantRequest(t, "full, but waited for", queued, x(2, 0, 0), queued, false, api.OK)
	wantRequest(t, "room for one", table(most), s(1, last.Page, last.Slot), table(all), true, api.OK)
	wantRequest(t, "room for one that waits", table(most), x(2, 0, 0), queued, false, api.OK)
	up := slices.Clone(most)
	up[0].Mode = 2
	wantRequest(t, "room for an upgrade", table(most), x(1, 0, 0), table(up), true, api.OK)
}

// P8.2, P8.3: what can be held is held, from the front on.
func TestSettle(t *testing.T) {
	for _, c := range []struct {
		name string
		l    api.Locks
		want api.Locks
	}{
		{"shared up to an exclusive one", table(held(x(9, 0, 0)), s(4, 0, 0), s(2, 0, 0), x(3, 0, 0), s(1, 0, 0)), table(held(s(2, 0, 0), s(4, 0, 0)), x(3, 0, 0), s(1, 0, 0))},
		{"one exclusive", table(held(x(9, 0, 0)), x(3, 0, 0), s(1, 0, 0), x(2, 0, 0)), table(held(x(3, 0, 0)), s(1, 0, 0), x(2, 0, 0))},
		{"shared with those who hold", table(held(s(1, 0, 0), s(9, 0, 0)), s(2, 0, 0), s(3, 0, 0), x(4, 0, 0), x(5, 0, 0)), table(held(s(1, 0, 0), s(2, 0, 0), s(3, 0, 0)), x(4, 0, 0), x(5, 0, 0))},
		{"several locks", table(held(x(9, 0, 0), x(9, 0, 1), x(9, 1, 0)), x(1, 1, 0), x(2, 0, 1), x(3, 0, 0), s(4, 0, 1)), table(held(x(3, 0, 0), x(2, 0, 1), x(1, 1, 0)), s(4, 0, 1))},
		{"an upgrade", table(held(s(1, 0, 0), s(9, 0, 0)), x(1, 0, 0), x(2, 0, 0)), table(held(x(1, 0, 0)), x(2, 0, 0))},
		{"an upgrade, while another one holds", table(held(s(1, 0, 0), s(2, 0, 0), s(9, 0, 0)), x(1, 0, 0)), table(held(s(1, 0, 0), s(2, 0, 0)), x(1, 0, 0))},
		{"a request that is none any more", table(held(s(1, 0, 0), s(9, 0, 0)), x(9, 0, 0), x(1, 0, 0)), table(held(x(1, 0, 0)))},
		{"all locks of a transaction", table(held(x(9, 0, 0), x(9, 0, 1)), s(1, 0, 1), x(9, 1, 1), s(2, 0, 0)), table(held(s(2, 0, 0), s(1, 0, 1)))},
		{"others behind an exclusive one that is settled", table(held(x(9, 0, 0)), x(1, 0, 0), x(2, 0, 0), s(3, 0, 0), s(4, 0, 0)), table(held(x(1, 0, 0)), x(2, 0, 0), s(3, 0, 0), s(4, 0, 0))},
		{"a shared one behind shared ones that are settled", table(held(x(9, 0, 0)), s(1, 0, 0), s(2, 0, 0), s(3, 0, 0)), table(held(s(1, 0, 0), s(2, 0, 0), s(3, 0, 0)))},
		{"nothing was settled before", table(nil, s(1, 0, 0), x(2, 0, 0), x(3, 5, 5), s(4, 0, 0)), table(held(s(1, 0, 0), x(3, 5, 5)), x(2, 0, 0), s(4, 0, 0))},
	} {
		wantTable(t, c.name, c.l, c.want, release(9))
		wantTable(t, c.name, c.want, c.want, release(9))
	}
}

// P8.3: Cancel takes what is waited for, Drop one lock that is held, Release both.
func TestRemove(t *testing.T) {
	l := table(held(s(1, 0, 0), s(2, 0, 0), x(2, 0, 1), s(3, 0, 2), x(1, 2, 0)), x(3, 0, 0), s(4, 0, 0), x(1, 0, 2), s(5, 0, 1), s(6, 0, 1), s(7, 2, 0))
	for _, c := range []struct {
		name string
		do   func(api.Locks) api.Locks
		want api.Locks
	}{
		{"Cancel of one that has nothing", cancel(8), l},
		{"Cancel of one that holds only", cancel(2), l},
		{"Cancel of one that waits only", cancel(5), table(l.Held, x(3, 0, 0), s(4, 0, 0), x(1, 0, 2), s(6, 0, 1), s(7, 2, 0))},
		{"Cancel of one that does both", cancel(1), table(l.Held, x(3, 0, 0), s(4, 0, 0), s(5, 0, 1), s(6, 0, 1), s(7, 2, 0))},
		{"Cancel of one that others wait for", cancel(3), table(held(s(1, 0, 0), s(2, 0, 0), s(4, 0, 0), x(2, 0, 1), s(3, 0, 2), x(1, 2, 0)), x(1, 0, 2), s(5, 0, 1), s(6, 0, 1), s(7, 2, 0))},
		{"Drop of one that has nothing", drop(8, 0, 0), l},
		{"Drop of what another one holds", drop(3, 0, 1), l},
		{"Drop of what is waited for only", drop(5, 0, 1), l},
		{"Drop of what nobody has", drop(1, 9, 9), l},
		{"Drop of what is shared", drop(1, 0, 0), table(held(s(2, 0, 0), x(2, 0, 1), s(3, 0, 2), x(1, 2, 0)), l.Waiting...)},
		{"Drop of what several wait for", drop(2, 0, 1), table(held(s(1, 0, 0), s(2, 0, 0), s(5, 0, 1), s(6, 0, 1), s(3, 0, 2), x(1, 2, 0)), x(3, 0, 0), s(4, 0, 0), x(1, 0, 2), s(7, 2, 0))},
		{"Drop of one that does both", drop(3, 0, 2), table(held(s(1, 0, 0), s(2, 0, 0), x(2, 0, 1), x(1, 0, 2), x(1, 2, 0)), x(3, 0, 0), s(4, 0, 0), s(5, 0, 1), s(6, 0, 1), s(7, 2, 0))},
		{"Release of one that has nothing", release(8), l},
		{"Release of one that holds only", release(2), table(held(s(1, 0, 0), s(5, 0, 1), s(6, 0, 1), s(3, 0, 2), x(1, 2, 0)), x(3, 0, 0), s(4, 0, 0), x(1, 0, 2), s(7, 2, 0))},
		{"Release of one that waits only", release(6), table(l.Held, x(3, 0, 0), s(4, 0, 0), x(1, 0, 2), s(5, 0, 1), s(7, 2, 0))},
		{"Release of one that does both", release(1), table(held(s(2, 0, 0), x(2, 0, 1), s(3, 0, 2), s(7, 2, 0)), x(3, 0, 0), s(4, 0, 0), s(5, 0, 1), s(6, 0, 1))},
		{"Release of one that others wait for", release(3), table(held(s(1, 0, 0), s(2, 0, 0), s(4, 0, 0), x(2, 0, 1), x(1, 0, 2), x(1, 2, 0)), s(5, 0, 1), s(6, 0, 1), s(7, 2, 0))},
	} {
		wantTable(t, c.name, l, c.want, c.do)
	}
	up := table(held(s(1, 0, 0), s(2, 0, 0)), x(1, 0, 0), x(3, 0, 0))
	wantTable(t, "Drop of what an upgrade waits for", up, table(held(s(2, 0, 0)), x(1, 0, 0), x(3, 0, 0)), drop(1, 0, 0))
	wantTable(t, "Cancel of an upgrade", up, table(up.Held, x(3, 0, 0)), cancel(1))
	wantTable(t, "Release of an upgrade", up, table(held(s(2, 0, 0)), x(3, 0, 0)), release(1))
	for _, do := range []func(api.Locks) api.Locks{cancel(1), drop(1, 0, 0), release(1)} {
		wantTable(t, "empty", api.Locks{}, api.Locks{}, do)
		wantTable(t, "settled, though nothing is removed", table(nil, s(2, 0, 0), x(3, 0, 0)), table(held(s(2, 0, 0)), x(3, 0, 0)), do)
	}
	all := table(full(maxLocks))
	wantTable(t, "full", all, api.Locks{}, release(1))
	wantTable(t, "full", all, table(all.Held[1:]), drop(1, 0, 0))
}

// queues yields all lists of grants of the cell 0.0 in which each of the transactions 1 to n stands at most once, in any order.
func queues(n int, list []api.Grant, do func([]api.Grant)) {
	do(list)
	for tx := 1; tx <= n; tx++ {
		if slices.ContainsFunc(list, func(g api.Grant) bool { return g.Tx == tx }) {
			continue
		}
		for mode := 1; mode <= 2; mode++ {
			queues(n, append(slices.Clone(list), grant(tx, 0, 0, mode)), do)
		}
	}
}

// P8.1 to P8.3: all tables of one lock with up to three transactions, and one more that asks.
func TestAllSmallTables(t *testing.T) {
	for n := range 27 {
		var h []api.Grant
		for tx, m := 1, n; tx <= 3; tx, m = tx+1, m/3 {
			if m%3 > 0 {
				h = append(h, grant(tx, 0, 0, m%3))
			}
		}
		queues(3, nil, func(waiting []api.Grant) {
			for tx := 1; tx <= 4; tx++ {
				checkAll(t, table(h, waiting...), tx, api.Lock{})
			}
		})
	}
}

// someTable is a table of a few transactions and cells; mostly a valid one, whose grants need not be settled.
func someTable(r *rand.Rand) api.Locks {
	l := api.Locks{}
	for range r.Intn(12) {
		g := grant(1+r.Intn(6), r.Intn(2), r.Intn(2), 1+r.Intn(2))
		next := table(slices.Clone(l.Held), slices.Clone(l.Waiting)...)
		if r.Intn(3) > 0 {
			next.Held = append(next.Held, g)
			slices.SortFunc(next.Held, compare)
		} else {
			next.Waiting = append(next.Waiting, g)
		}
		if rightTable(next) || r.Intn(60) == 0 {
			l = next
		}
	}
	return l
}

// P8.1 to P8.3: random tables, valid or not, settled or not.
func TestRandomTables(t *testing.T) {
	r := rand.New(rand.NewSource(8))
	right := 0
	for range 20000 {
		l := someTable(r)
		if rightTable(l) {
			right++
		}
		checkAll(t, l, r.Intn(8), api.Lock{Page: r.Intn(3) - r.Intn(2), Slot: r.Intn(3)})
	}
	if right < 15000 || right > 19500 {
		t.Errorf("%d of the tables are valid", right)
	}
}

// checkSettled checks the Consequences of a table: it is valid, and each transaction that waits has a conflict with one that holds, or waits before it.
func checkSettled(t *testing.T, l api.Locks) {
	t.Helper()
	if !locks.Valid(l) {
		t.Fatalf("not valid: %s", show(l))
	}
	for i := range l.Waiting {
		if !blocked(l, i) {
			t.Fatalf("%v could be held: %s", l.Waiting[i], show(l))
		}
	}
	if again := locks.Cancel(l, maxTx); !same(l, again) {
		t.Fatalf("settling changes %s to %s", show(l), show(again))
	}
}

// checkOrder checks that those who wait keep their order, and that none of them has passed one with a conflict that still waits.
func checkOrder(t *testing.T, before, after api.Locks) {
	t.Helper()
	at := -1
	for i, w := range before.Waiting {
		if now := slices.Index(after.Waiting, w); now >= 0 {
			if now <= at {
				t.Fatalf("%v has passed another one: before %s, after %s", w, show(before), show(after))
			}
			at = now
			continue
		}
		for _, v := range before.Waiting[:i] {
			if conflicts(v, w) && slices.Contains(after.Waiting, v) && slices.Contains(after.Held, w) {
				t.Fatalf("%v has passed %v: before %s, after %s", w, v, show(before), show(after))
			}
		}
	}
}

// step is what one transaction does, at random: the table after it, checked against the models.
func step(t *testing.T, r *rand.Rand, l api.Locks) api.Locks {
	t.Helper()
	g := grant(1+r.Intn(7), r.Intn(2), r.Intn(3), 1+r.Intn(2))
	checkAll(t, l, g.Tx, g.Lock)
	switch r.Intn(12) {
	case 0:
		return locks.Cancel(l, g.Tx)
	case 1:
		return locks.Drop(l, g.Tx, g.Lock)
	case 2:
		return locks.Release(l, g.Tx)
	}
	next, holds, e := locks.Request(l, g)
	if e != api.OK {
		return l
	}
	if w, waits := locks.Waiting(next, g.Tx); holds == waits || waits && w != g || holds != (locks.Mode(next, g.Tx, g.Lock) >= g.Mode) {
		t.Fatalf("Request of %v in %s: %v, then %s", g, show(l), holds, show(next))
	}
	return next
}

// Consequences: in the tables that are made from an empty one.
func TestConsequences(t *testing.T) {
	r := rand.New(rand.NewSource(88))
	waited := 0
	for range 300 {
		l := api.Locks{}
		for range 60 {
			next := step(t, r, l)
			checkSettled(t, next)
			checkOrder(t, l, next)
			l = next
			waited += len(l.Waiting)
		}
	}
	if waited < 20000 {
		t.Errorf("only %d have waited", waited)
	}
}

// Consequences: of shared requests behind an exclusive one none passes it.
func TestNonePasses(t *testing.T) {
	l := table(held(s(1, 0, 0)))
	for _, g := range held(x(2, 0, 0), s(3, 0, 0), s(4, 0, 0), s(5, 0, 0)) {
		l, _, _ = locks.Request(l, g)
	}
	behind := held(x(2, 0, 0), s(3, 0, 0), s(4, 0, 0), s(5, 0, 0))
	if want := table(held(s(1, 0, 0)), behind...); !same(l, want) {
		t.Fatalf("%s, want %s", show(l), show(want))
	}
	wantTable(t, "then 2 holds it", l, table(held(x(2, 0, 0)), behind[1:]...), release(1))
	wantTable(t, "then the others", locks.Release(l, 1), table(behind[1:]), release(2))
	wantTable(t, "2 goes away", l, table(slices.Concat(held(s(1, 0, 0)), behind[1:])), cancel(2))
}

// R1: a large table, full of those who wait for one another.
func TestLarge(t *testing.T) {
	l := table(held(x(1, 0, 0)))
	for tx := 2; tx <= maxLocks; tx++ {
		l.Waiting = append(l.Waiting, grant(tx, 0, 0, 1+tx%5/4))
	}
	wantValid(t, "large", l, true)
	wantTable(t, "large", l, settle(table(nil, l.Waiting...)), release(1))
	for tx := range l.Waiting {
		l.Waiting[tx].Mode = 1
	}
	slices.Reverse(l.Waiting)
	sorted := slices.SortedFunc(slices.Values(l.Waiting), func(a, b api.Grant) int { return cmp.Compare(a.Tx, b.Tx) })
	wantTable(t, "large, all shared", l, table(sorted), release(1))
}

// Example 1.
func TestExample(t *testing.T) {
	l, holds, e := locks.Request(api.Locks{}, s(1, 4, 2))
	if !holds || e != api.OK {
		t.Fatal(holds, e)
	}
	l, holds, e = locks.Request(l, s(2, 4, 2))
	if !holds || e != api.OK {
		t.Fatal(holds, e)
	}
	waits := table(held(s(1, 4, 2), s(2, 4, 2)), x(1, 4, 2))
	wantRequest(t, "1 wants it exclusive", l, x(1, 4, 2), waits, false, api.OK)
	wantWaiting(t, "1 waits", waits, 1, x(1, 4, 2), true)
	wantMode(t, "1 waits", waits, 1, api.Lock{Page: 4, Slot: 2}, 1)
	wantTable(t, "2 releases", waits, table(held(x(1, 4, 2))), release(2))
}
