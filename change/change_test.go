package change_test

import (
	"fmt"
	"math"
	"math/rand"
	"slices"
	"strings"
	"testing"

	"pagemend/api"
	"pagemend/change"
)

func set(data string) api.Cell { return api.Cell{Set: true, Data: data} }

// goodCells are valid cells, each another one: those at the ends of the range, and those that are nearly equal.
func goodCells() []api.Cell {
	return []api.Cell{
		{}, set(""), set("\x00"), set("x"), set("y"), set("x\x00"), set("éééééé"),
		set("abcdefghijk"), set("abcdefghijkl"), set("abcdefghijkm"), set(strings.Repeat("\xff", 12)),
	}
}

// badCells are cells that are not valid.
func badCells() []api.Cell {
	return []api.Cell{
		set("abcdefghijklm"), set(strings.Repeat("\x00", 13)), set("ééééééé"),
		set(strings.Repeat("a", 255)), set(strings.Repeat("a", 256)), set(strings.Repeat("a", 1<<16+1)),
		{Data: "x"}, {Data: "\x00"}, {Data: "abcdefghijkl"}, {Data: "abcdefghijklm"},
	}
}

func goodPages() []int { return []int{0, 1, 5, 62, 63} }

func badPages() []int {
	return []int{math.MinInt, -64, -1, 64, 65, 256, 1 << 32, math.MaxInt}
}

func goodSlots() []int { return []int{0, 1, 7, 14, 15} }

func badSlots() []int {
	return []int{math.MinInt, -16, -1, 16, 17, 256, 1 << 32, math.MaxInt}
}

// badChanges are changes that are not valid, each by one field, and some by more.
func badChanges() []api.Change {
	var all []api.Change
	for _, id := range badPages() {
		all = append(all, api.Change{Page: id, Before: set("x"), After: set("y")}, api.Change{Page: id, Slot: 15})
	}
	for _, slot := range badSlots() {
		all = append(all, api.Change{Slot: slot, Before: set("x"), After: set("y")}, api.Change{Page: 63, Slot: slot})
		all = append(all, api.Change{Page: -1, Slot: slot, After: set("abcdefghijklm")})
	}
	for _, c := range badCells() {
		all = append(all, api.Change{Page: 3, Slot: 4, Before: c}, api.Change{Page: 3, Slot: 4, After: c})
		all = append(all, api.Change{Page: 3, Slot: 4, Before: c, After: c}, api.Change{Page: 64, Slot: 16, Before: c, After: c})
	}
	return all
}

// full is a page with cells of each length, and with cells that are not set between them.
func full(id, lsn int) api.Page {
	p := api.Page{ID: id, LSN: lsn}
	for i := range p.Cells {
		if i%5 != 3 {
			p.Cells[i] = set(strings.Repeat(string(rune('a'+i)), i%(api.MaxData+1)))
		}
	}
	return p
}

// other is a page in which each cell is another one than in full.
func other(id, lsn int) api.Page {
	p := full(id, lsn)
	for i, c := range p.Cells {
		switch {
		case !c.Set:
			p.Cells[i] = set("")
		case c.Data == "":
			p.Cells[i] = api.Cell{}
		default:
			p.Cells[i] = set(c.Data[1:])
		}
	}
	return p
}

// put is p with the cell c in a slot.
func put(p api.Page, slot int, c api.Cell) api.Page {
	p.Cells[slot] = c
	return p
}

// applied is p with changes applied, one after the other.
func applied(t *testing.T, p api.Page, changes ...api.Change) api.Page {
	t.Helper()
	for _, c := range changes {
		next, e := change.Apply(p, c)
		if e != api.OK {
			t.Fatalf("Apply(%+v, %+v): error %d", p, c, e)
		}
		p = next
	}
	return p
}

// P3.1: at most api.MaxData bytes, and none in a cell that is not set.
func TestValidCell(t *testing.T) {
	for _, c := range goodCells() {
		if !change.ValidCell(c) {
			t.Errorf("not valid: %+v", c)
		}
	}
	for _, c := range badCells() {
		if change.ValidCell(c) {
			t.Errorf("valid: %+v", c)
		}
	}
	for size := range 40 {
		data := strings.Repeat("a", size)
		if change.ValidCell(set(data)) != (size <= 12) || change.ValidCell(api.Cell{Data: data}) != (size == 0) {
			t.Errorf("cells with %d bytes are wrong", size)
		}
	}
}

// P3.1: every page and slot, and every pair of valid cells, equal ones too.
func TestValid(t *testing.T) {
	for id := range 64 {
		for slot := range 16 {
			if !change.Valid(api.Change{Page: id, Slot: slot, After: set("x")}) {
				t.Errorf("page %d, slot %d: not valid", id, slot)
			}
		}
	}
	for _, id := range goodPages() {
		for _, slot := range goodSlots() {
			for _, before := range goodCells() {
				for _, after := range goodCells() {
					c := api.Change{Page: id, Slot: slot, Before: before, After: after}
					if !change.Valid(c) {
						t.Errorf("not valid: %+v", c)
					}
				}
			}
		}
	}
}

// P3.1: each field can make a change invalid.
func TestNotValid(t *testing.T) {
	for _, c := range badChanges() {
		if change.Valid(c) {
			t.Errorf("valid: %+v", c)
		}
	}
}

// P3.2: the cell is After; the LSN and the other cells stay, whatever they are.
func TestApply(t *testing.T) {
	for _, lsn := range []int{0, 1, 7, api.MaxLSN, api.MaxLSN + 1, -1, math.MinInt, math.MaxInt} {
		for _, id := range goodPages() {
			p := full(id, lsn)
			for slot, before := range p.Cells {
				for _, after := range goodCells() {
					c := api.Change{Page: id, Slot: slot, Before: before, After: after}
					if got, e := change.Apply(p, c); e != api.OK || got != put(p, slot, after) {
						t.Errorf("Apply(%+v, %+v) = %+v, %d", p, c, got, e)
					}
				}
			}
		}
	}
}

// P3.2: only the cell in Slot has to be as the change says; a page that is not valid elsewhere is changed too.
func TestApplyToPageThatIsNotValid(t *testing.T) {
	for _, bad := range badCells() {
		p := put(full(3, -5), 9, bad)
		c := api.Change{Page: 3, Slot: 1, Before: p.Cells[1], After: set("new")}
		if got, e := change.Apply(p, c); e != api.OK || got != put(p, 1, set("new")) {
			t.Errorf("Apply(%+v, %+v) = %+v, %d", p, c, got, e)
		}
		c = api.Change{Page: 3, Slot: 9, Before: bad, After: set("new")}
		refused(t, p, c, api.ErrData)
		c = api.Change{Page: 3, Slot: 9, After: set("new")}
		refused(t, p, c, api.ErrBefore)
	}
}

// refused checks that c is not applied to p.
func refused(t *testing.T, p api.Page, c api.Change, want api.Errno) {
	t.Helper()
	if got, e := change.Apply(p, c); e != want || got != (api.Page{}) {
		t.Errorf("Apply(%+v, %+v) = %+v, %d, want error %d", p, c, got, e, want)
	}
}

// P3.2: a change that is not valid comes first, whatever the page is.
func TestApplyData(t *testing.T) {
	for _, c := range badChanges() {
		for _, id := range []int{c.Page, 3, 63, 64, -1} {
			p := full(id, 7)
			refused(t, p, c, api.ErrData)
			if c.Slot >= 0 && c.Slot < api.Slots {
				refused(t, put(p, c.Slot, c.Before), c, api.ErrData)
				refused(t, put(p, c.Slot, set("other")), c, api.ErrData)
			}
		}
	}
}

// P3.2: another page comes before another cell.
func TestApplyIdentity(t *testing.T) {
	for _, id := range goodPages() {
		for _, not := range append(badPages(), 2, 4, 61) {
			p := full(not, 7)
			refused(t, p, api.Change{Page: id, Slot: 2, Before: p.Cells[2], After: set("x")}, api.ErrIdentity)
			refused(t, p, api.Change{Page: id, Slot: 2, Before: set("not it"), After: set("x")}, api.ErrIdentity)
		}
	}
	refused(t, full(0, 7), api.Change{Page: 63, Slot: 3}, api.ErrIdentity)
	refused(t, full(63, 7), api.Change{Page: 0, Slot: 3}, api.ErrIdentity)
}

// P3.2: the cell has to be Before, though it is After already, and though only Set or Data differs.
func TestApplyBefore(t *testing.T) {
	for _, have := range goodCells() {
		for _, before := range goodCells() {
			if have == before {
				continue
			}
			for _, slot := range goodSlots() {
				p := put(full(5, 7), slot, have)
				for _, after := range []api.Cell{{}, set("x"), have, before} {
					refused(t, p, api.Change{Page: 5, Slot: slot, Before: before, After: after}, api.ErrBefore)
				}
			}
		}
	}
	p := put(put(full(5, 7), 2, set("two")), 4, set("four"))
	refused(t, p, api.Change{Page: 5, Slot: 4, Before: set("two"), After: set("x")}, api.ErrBefore)
}

// P3.3: Before and After are exchanged, in changes that are not valid too.
func TestInverse(t *testing.T) {
	cells := append(goodCells(), badCells()...)
	for _, id := range append(goodPages(), badPages()...) {
		for _, slot := range append(goodSlots(), badSlots()...) {
			for i, before := range cells {
				after := cells[(i+1)%len(cells)]
				got := change.Inverse(api.Change{Page: id, Slot: slot, Before: before, After: after})
				if want := (api.Change{Page: id, Slot: slot, Before: after, After: before}); got != want {
					t.Errorf("Inverse = %+v, want %+v", got, want)
				}
			}
		}
	}
}

// Example 1: the inverse of the change that sets an empty cell to "x" empties it.
func TestInverseEmpties(t *testing.T) {
	c := api.Change{Page: 2, Slot: 6, After: set("x")}
	p := applied(t, api.Page{ID: 2, LSN: 3}, c)
	if p.Cells[6] != set("x") {
		t.Fatalf("the cell is %+v", p.Cells[6])
	}
	if p = applied(t, p, change.Inverse(c)); p != (api.Page{ID: 2, LSN: 3}) {
		t.Errorf("the page is %+v", p)
	}
}

// P3.3: Before of the first one, After of the second one, equal ones too.
func TestJoin(t *testing.T) {
	cells := goodCells()
	for _, id := range goodPages() {
		for _, slot := range goodSlots() {
			for i, first := range cells {
				middle := cells[(i+3)%len(cells)]
				for _, last := range cells {
					a := api.Change{Page: id, Slot: slot, Before: first, After: middle}
					b := api.Change{Page: id, Slot: slot, Before: middle, After: last}
					want := api.Change{Page: id, Slot: slot, Before: first, After: last}
					if got, e := change.Join(a, b); e != api.OK || got != want {
						t.Errorf("Join(%+v, %+v) = %+v, %d", a, b, got, e)
					}
				}
			}
		}
	}
}

// notJoined checks that a and b are not joined.
func notJoined(t *testing.T, a, b api.Change, want api.Errno) {
	t.Helper()
	if got, e := change.Join(a, b); e != want || got != (api.Change{}) {
		t.Errorf("Join(%+v, %+v) = %+v, %d, want error %d", a, b, got, e, want)
	}
}

// P3.3: a change that is not valid comes first, whichever of both it is.
func TestJoinData(t *testing.T) {
	for _, bad := range badChanges() {
		fits := api.Change{Page: bad.Page, Slot: bad.Slot, Before: bad.After, After: bad.Before}
		notJoined(t, bad, fits, api.ErrData)
		notJoined(t, fits, bad, api.ErrData)
		for _, c := range []api.Change{
			{Page: 3, Slot: 4},
			{Page: 3, Slot: 4, Before: set("y"), After: set("z")},
			{Page: 63, Slot: 15, Before: set("z"), After: set("z")},
			{Page: bad.Page, Slot: 0, Before: set("z"), After: set("z")},
		} {
			notJoined(t, bad, c, api.ErrData)
			notJoined(t, c, bad, api.ErrData)
		}
	}
}

// P3.3: another page or another slot comes before another cell.
func TestJoinIdentity(t *testing.T) {
	a := api.Change{Page: 3, Slot: 4, Before: set("x"), After: set("y")}
	for _, place := range [][2]int{{3, 5}, {3, 0}, {3, 15}, {4, 4}, {0, 4}, {63, 4}, {4, 3}, {5, 9}} {
		for _, before := range []api.Cell{set("y"), set("x"), {}} {
			b := api.Change{Page: place[0], Slot: place[1], Before: before, After: set("z")}
			notJoined(t, a, b, api.ErrIdentity)
			notJoined(t, b, a, api.ErrIdentity)
		}
	}
}

// P3.3: the second one begins with the cell that the first one leaves.
func TestJoinBefore(t *testing.T) {
	for _, after := range goodCells() {
		for _, before := range goodCells() {
			if before == after {
				continue
			}
			for _, last := range []api.Cell{{}, set("x"), after, before} {
				a := api.Change{Page: 3, Slot: 4, Before: before, After: after}
				b := api.Change{Page: 3, Slot: 4, Before: before, After: last}
				notJoined(t, a, b, api.ErrBefore)
			}
		}
	}
}

// P3.4: one change for each cell that differs, ascending by Slot; the LSNs do not count.
func TestDiff(t *testing.T) {
	for _, id := range goodPages() {
		a, b := full(id, 7), other(id, 9)
		for pattern := range 1 << 16 {
			if id != 5 && pattern != 0 && pattern != 0xFFFF && pattern&(pattern-1) != 0 {
				continue // each subset of the cells in one page; none, each, and all in the others
			}
			to, want := a, []api.Change(nil)
			to.LSN = 8
			for slot := range api.Slots {
				if pattern>>slot&1 == 1 {
					to.Cells[slot] = b.Cells[slot]
					want = append(want, api.Change{Page: id, Slot: slot, Before: a.Cells[slot], After: b.Cells[slot]})
				}
			}
			if got, e := change.Diff(a, to); e != api.OK || !slices.Equal(got, want) {
				t.Fatalf("Diff(%+v, %+v) = %+v, %d, want %+v", a, to, got, e, want)
			}
		}
	}
}

// P3.4: no changes of pages that do not differ, or only by LSN, whatever it is.
func TestDiffOfEqual(t *testing.T) {
	for _, id := range goodPages() {
		for _, lsn := range []int{0, 7, api.MaxLSN, -1, math.MinInt, math.MaxInt} {
			for _, p := range []api.Page{{ID: id}, full(id, 7), other(id, 0)} {
				to := p
				to.LSN = lsn
				if got, e := change.Diff(p, to); e != api.OK || len(got) != 0 {
					t.Errorf("Diff(%+v, %+v) = %+v, %d", p, to, got, e)
				}
			}
		}
	}
}

// P3.4: a cell differs though only Set or only a byte of Data does; each change is valid.
func TestDiffOfCells(t *testing.T) {
	for _, before := range goodCells() {
		for _, after := range goodCells() {
			for _, slot := range goodSlots() {
				a, b := put(full(5, 7), slot, before), put(full(5, 7), slot, after)
				got, e := change.Diff(a, b)
				var want []api.Change
				if before != after {
					want = append(want, api.Change{Page: 5, Slot: slot, Before: before, After: after})
				}
				if e != api.OK || !slices.Equal(got, want) {
					t.Errorf("Diff(%+v, %+v) = %+v, %d, want %+v", a, b, got, e, want)
				}
			}
		}
	}
}

// noDiff checks that a and b have no Diff.
func noDiff(t *testing.T, a, b api.Page, want api.Errno) {
	t.Helper()
	if got, e := change.Diff(a, b); e != want || len(got) != 0 {
		t.Errorf("Diff(%+v, %+v) = %+v, %d, want error %d", a, b, got, e, want)
	}
}

// P3.4: IDs that differ come before IDs out of range, and before cells that are not valid.
func TestDiffIdentity(t *testing.T) {
	ids := append(goodPages(), badPages()...)
	for _, x := range ids {
		for _, y := range ids {
			if x == y {
				continue
			}
			a, b := full(x, 7), full(y, 7)
			noDiff(t, a, b, api.ErrIdentity)
			noDiff(t, a, other(y, 7), api.ErrIdentity)
			noDiff(t, put(a, 2, api.Cell{Data: "x"}), b, api.ErrIdentity)
			noDiff(t, a, put(b, 2, api.Cell{Data: "x"}), api.ErrIdentity)
		}
	}
}

// P3.4: IDs out of range come before cells that are not valid.
func TestDiffRange(t *testing.T) {
	for _, id := range badPages() {
		p := full(id, 7)
		noDiff(t, p, p, api.ErrRange)
		noDiff(t, p, other(id, 7), api.ErrRange)
		for _, bad := range badCells() {
			noDiff(t, put(p, 2, bad), p, api.ErrRange)
			noDiff(t, p, put(p, 2, bad), api.ErrRange)
		}
	}
}

// P3.4: each cell of both pages has to be valid, though it is the same one in both.
func TestDiffData(t *testing.T) {
	for _, id := range goodPages() {
		p := full(id, 7)
		for _, bad := range badCells() {
			for slot := range api.Slots {
				wrong := put(p, slot, bad)
				noDiff(t, wrong, p, api.ErrData)
				noDiff(t, p, wrong, api.ErrData)
				noDiff(t, wrong, wrong, api.ErrData)
				noDiff(t, other(id, 7), wrong, api.ErrData)
			}
		}
	}
}

// LANGUAGE, 7: two results share no memory.
func TestDiffIsNew(t *testing.T) {
	a, b := full(5, 7), other(5, 7)
	first, _ := change.Diff(a, b)
	kept := slices.Clone(first)
	second, _ := change.Diff(a, b)
	clear(second[:cap(second)])
	if !slices.Equal(first, kept) {
		t.Error("the results of two calls share memory")
	}
}

// Consequences: a change and then its inverse changes nothing.
func TestApplyInverse(t *testing.T) {
	for _, before := range goodCells() {
		for _, after := range goodCells() {
			for slot := range api.Slots {
				p := put(full(5, 7), slot, before)
				c := api.Change{Page: 5, Slot: slot, Before: before, After: after}
				if got := applied(t, p, c, change.Inverse(c)); got != p {
					t.Errorf("%+v and its inverse make %+v of %+v", c, got, p)
				}
			}
		}
	}
}

// Consequences: applying Join is applying both; so it is with the errors of the first one.
func TestApplyJoin(t *testing.T) {
	for _, first := range goodCells() {
		for _, middle := range goodCells() {
			for _, last := range goodCells() {
				p := put(full(5, 7), 9, first)
				a := api.Change{Page: 5, Slot: 9, Before: first, After: middle}
				b := api.Change{Page: 5, Slot: 9, Before: middle, After: last}
				c, e := change.Join(a, b)
				if e != api.OK {
					t.Fatalf("Join(%+v, %+v): error %d", a, b, e)
				}
				if both, joined := applied(t, p, a, b), applied(t, p, c); both != joined {
					t.Errorf("both make %+v, Join makes %+v", both, joined)
				}
				refused(t, full(6, 7), c, api.ErrIdentity)
				refused(t, put(p, 9, set("no cell")), c, api.ErrBefore)
			}
		}
	}
}

// orders calls do with each order of a few changes.
func orders(done, left []api.Change, do func([]api.Change)) {
	if len(left) == 0 {
		do(done)
	}
	for i := range left {
		orders(append(slices.Clone(done), left[i]), slices.Delete(slices.Clone(left), i, i+1), do)
	}
}

// Consequences: Diff makes the cells those of the other page, in each order of a few changes, and in many orders of all.
func TestApplyDiff(t *testing.T) {
	a, b := full(5, 7), other(5, 9)
	want := b
	want.LSN = a.LSN
	all, e := change.Diff(a, b)
	if e != api.OK || len(all) != api.Slots {
		t.Fatalf("Diff = %+v, %d", all, e)
	}
	check := func(changes []api.Change) {
		t.Helper()
		if got := applied(t, a, changes...); got != want {
			t.Errorf("in the order %+v: %+v, want %+v", changes, got, want)
		}
	}
	random := rand.New(rand.NewSource(3))
	for range 500 {
		random.Shuffle(len(all), func(i, j int) { all[i], all[j] = all[j], all[i] })
		check(all)
	}
	slices.SortFunc(all, func(x, y api.Change) int { return y.Slot - x.Slot })
	check(all)
	slices.Reverse(all)
	check(all)
	some := a
	for i, slot := range []int{0, 3, 4, 9, 15} {
		some.Cells[slot] = set(fmt.Sprint("new ", i))
	}
	few, e := change.Diff(a, some)
	if e != api.OK || len(few) != 5 {
		t.Fatalf("Diff = %+v, %d", few, e)
	}
	want = some
	orders(nil, few, check)
}
