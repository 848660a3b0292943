package pool_test

import (
	"fmt"
	"math"
	"math/rand"
	"slices"
	"strings"
	"testing"

	"pagemend/api"
	"pagemend/page"
	"pagemend/pool"
)

const (
	maxFrames = 64
	maxPages  = 64
	maxLSN    = 1 << 40
)

// pg is a page whose cells tell its two numbers; without an LSN they are empty.
func pg(id, lsn int) api.Page {
	x := api.Page{ID: id, LSN: lsn}
	if lsn > 0 {
		x.Cells[0] = api.Cell{Set: true, Data: fmt.Sprint(id)}
		x.Cells[15] = api.Cell{Set: true, Data: fmt.Sprint(lsn % 1000000)}
	}
	return x
}

// bare is a page with empty cells, whatever its LSN is.
func bare(id, lsn int) api.Page { return api.Page{ID: id, LSN: lsn} }

// wrongCell is a page with a cell that is not valid.
func wrongCell(id, lsn int) api.Page {
	x := pg(id, lsn)
	x.Cells[7] = api.Cell{Data: "x"}
	return x
}

// c is a frame that is not dirty, d is one that is; cu and du are used, too.
func c(id, lsn int) api.Frame { return api.Frame{Page: pg(id, lsn)} }

func d(id, lsn, rec int) api.Frame { return api.Frame{Page: pg(id, lsn), Dirty: true, Rec: rec} }

func cu(id, lsn int) api.Frame { return api.Frame{Page: pg(id, lsn), Used: true} }

func du(id, lsn, rec int) api.Frame {
	return api.Frame{Page: pg(id, lsn), Dirty: true, Rec: rec, Used: true}
}

func of(size, hand int, frames ...api.Frame) api.Pool {
	return api.Pool{Size: size, Frames: frames, Hand: hand}
}

// some are n frames of the pages 0 to n - 1, each of them clean and not used.
func some(n int) []api.Frame {
	var l []api.Frame
	for i := range n {
		l = append(l, c(i, i+1))
	}
	return l
}

// same reports whether two pools are equal; nil and an empty list are (R3).
func same(a, b api.Pool) bool {
	return a.Size == b.Size && a.Hand == b.Hand && slices.Equal(a.Frames, b.Frames)
}

// show tells a pool in short: of each frame the page, the LSN, Rec if it is dirty, and u if it is used.
func show(p api.Pool) string {
	var l []string
	for _, f := range p.Frames[:min(len(p.Frames), 66)] {
		s := fmt.Sprintf("%d@%d", f.Page.ID, f.Page.LSN)
		if f.Dirty || f.Rec != 0 {
			s += fmt.Sprintf("d%d", f.Rec)
		}
		if f.Used {
			s += "u"
		}
		l = append(l, s)
	}
	return fmt.Sprintf("size %d, hand %d, %d frames: %s", p.Size, p.Hand, len(p.Frames), strings.Join(l, " "))
}

// kept calls do with the pool in new memory with spare capacity, and checks that this memory stays (R2).
func kept(t *testing.T, p api.Pool, do func(api.Pool)) {
	t.Helper()
	spare := api.Frame{Page: api.Page{ID: -7}, Rec: -7}
	frames := append(slices.Clone(p.Frames), spare, spare, spare)
	before := slices.Clone(frames)
	do(api.Pool{Size: p.Size, Frames: frames[:len(p.Frames)], Hand: p.Hand})
	if !slices.Equal(frames, before) {
		t.Errorf("the argument was changed: %s", show(p))
	}
}

func wantValid(t *testing.T, name string, p api.Pool, want bool) {
	t.Helper()
	kept(t, p, func(p api.Pool) {
		if got := pool.Valid(p); got != want {
			t.Errorf("%s: Valid %v, want %v: %s", name, got, want, show(p))
		}
	})
}

func wantFind(t *testing.T, name string, p api.Pool, id, want int) {
	t.Helper()
	kept(t, p, func(p api.Pool) {
		if got := pool.Find(p, id); got != want {
			t.Errorf("%s: Find %d is %d, want %d: %s", name, id, got, want, show(p))
		}
	})
}

func wantGet(t *testing.T, name string, p api.Pool, id int, want api.Page, wantOk bool) {
	t.Helper()
	kept(t, p, func(p api.Pool) {
		if got, ok := pool.Get(p, id); got != want || ok != wantOk {
			t.Errorf("%s: Get %d is %v %v, want %v %v: %s", name, id, got, ok, want, wantOk, show(p))
		}
	})
}

func wantUse(t *testing.T, name string, p api.Pool, id int, want api.Pool) {
	t.Helper()
	kept(t, p, func(p api.Pool) {
		if got := pool.Use(p, id); !same(got, want) {
			t.Errorf("%s: Use %d of %s: %s, want %s", name, id, show(p), show(got), show(want))
		}
	})
}

// change is a call that changes a pool.
type change func(api.Pool) (api.Pool, api.Errno)

func put(x api.Page) change {
	return func(p api.Pool) (api.Pool, api.Errno) { return pool.Put(p, x) }
}

func update(x api.Page) change {
	return func(p api.Pool) (api.Pool, api.Errno) { return pool.Update(p, x) }
}

func drop(id int) change {
	return func(p api.Pool) (api.Pool, api.Errno) { return pool.Drop(p, id) }
}

func clean(id, lsn int) change {
	return func(p api.Pool) (api.Pool, api.Errno) { return pool.Clean(p, id, lsn) }
}

func wantPool(t *testing.T, name string, p api.Pool, do change, want api.Pool) {
	t.Helper()
	kept(t, p, func(p api.Pool) {
		if got, e := do(p); !same(got, want) || e != api.OK {
			t.Errorf("%s: of %s: %s, %d, want %s", name, show(p), show(got), e, show(want))
		}
	})
	wantValid(t, name, want, true)
}

// refused checks that a change has an error, and nothing beside it (R4).
func refused(t *testing.T, name string, p api.Pool, do change, want api.Errno) {
	t.Helper()
	kept(t, p, func(p api.Pool) {
		if got, e := do(p); !same(got, api.Pool{}) || e != want {
			t.Errorf("%s: of %s: %s, %d, want the error %d", name, show(p), show(got), e, want)
		}
	})
}

func wantVictim(t *testing.T, name string, p api.Pool, wantID int, want api.Pool, wantErr api.Errno) {
	t.Helper()
	kept(t, p, func(p api.Pool) {
		if got, id, e := pool.Victim(p); !same(got, want) || id != wantID || e != wantErr {
			t.Errorf("%s: Victim of %s: %s, %d, %d, want %s, %d, %d", name, show(p), show(got), id, e, show(want), wantID, wantErr)
		}
	})
}

func wantDirty(t *testing.T, name string, p api.Pool, want ...api.Dirty) {
	t.Helper()
	kept(t, p, func(p api.Pool) {
		if got := pool.Dirty(p); !slices.Equal(got, want) {
			t.Errorf("%s: Dirty of %s: %v, want %v", name, show(p), got, want)
		}
	})
}

// The models follow the chapter's text, with no regard to how long they take. In a model the hand is the page of its frame, not an index: so it stays with it by itself.

type model struct {
	size   int
	frames []api.Frame
	hand   int // a page; -1 without frames
}

// rightPage returns the error of page.Encode.
func rightPage(x api.Page) api.Errno {
	_, e := page.Encode(x)
	return e
}

func rightPool(p api.Pool) bool {
	if p.Size < 1 || p.Size > maxFrames || len(p.Frames) > p.Size {
		return false
	}
	if len(p.Frames) == 0 {
		return p.Hand == 0
	}
	if p.Hand < 0 || p.Hand > len(p.Frames)-1 {
		return false
	}
	for i, f := range p.Frames {
		if rightPage(f.Page) != api.OK || f.Dirty && (f.Rec < 1 || f.Rec > f.Page.LSN) || !f.Dirty && f.Rec != 0 {
			return false
		}
		for _, g := range p.Frames[:i] {
			if g.Page.ID == f.Page.ID {
				return false
			}
		}
	}
	return true
}

func modelOf(p api.Pool) *model {
	m := &model{size: p.Size, frames: slices.Clone(p.Frames), hand: -1}
	if len(p.Frames) > 0 {
		m.hand = p.Frames[p.Hand].Page.ID
	}
	return m
}

func (m *model) at(id int) int {
	return slices.IndexFunc(m.frames, func(f api.Frame) bool { return f.Page.ID == id })
}

func (m *model) pool() api.Pool {
	return api.Pool{Size: m.size, Frames: m.frames, Hand: max(0, m.at(m.hand))}
}

// next is the page behind a page, in the circle of the frames.
func (m *model) next(id int) int {
	circle := slices.Concat(m.frames, m.frames)
	return circle[m.at(id)+1].Page.ID
}

func (m *model) put(x api.Page) api.Errno {
	e := rightPage(x)
	switch {
	case e != api.OK:
		return e
	case m.at(x.ID) >= 0:
		return api.ErrThere
	case len(m.frames) >= m.size:
		return api.ErrLimit
	}
	m.frames = append(m.frames, api.Frame{Page: x, Used: true})
	if len(m.frames) == 1 {
		m.hand = x.ID
	}
	return api.OK
}

func (m *model) update(x api.Page) api.Errno {
	e, i := rightPage(x), m.at(x.ID)
	switch {
	case e != api.OK:
		return e
	case i < 0:
		return api.ErrMissing
	case x.LSN < m.frames[i].Page.LSN || x.LSN == m.frames[i].Page.LSN:
		return api.ErrStale
	}
	rec := m.frames[i].Rec
	if !m.frames[i].Dirty {
		rec = x.LSN
	}
	m.frames[i] = api.Frame{Page: x, Dirty: true, Rec: rec, Used: true}
	return api.OK
}

// victim also returns how many frames the hand has left.
func (m *model) victim() (id, steps int, e api.Errno) {
	if len(m.frames) == 0 {
		return 0, 0, api.ErrMissing
	}
	for m.frames[m.at(m.hand)].Used {
		m.frames[m.at(m.hand)].Used = false
		m.hand = m.next(m.hand)
		steps++
	}
	return m.hand, steps, api.OK
}

func (m *model) drop(id int) api.Errno {
	i := m.at(id)
	switch {
	case i < 0:
		return api.ErrMissing
	case m.frames[i].Dirty:
		return api.ErrNeeded
	case len(m.frames) == 1:
		m.frames, m.hand = nil, -1
		return api.OK
	case id == m.hand:
		m.hand = m.next(id)
	}
	m.frames = slices.Delete(m.frames, i, i+1)
	return api.OK
}

func (m *model) clean(id, lsn int) api.Errno {
	i := m.at(id)
	switch {
	case i < 0:
		return api.ErrMissing
	case lsn > m.frames[i].Page.LSN:
		return api.ErrFuture
	case !m.frames[i].Dirty:
	case m.frames[i].Page.LSN == lsn:
		m.frames[i].Dirty, m.frames[i].Rec = false, 0
	case m.frames[i].Rec <= lsn:
		m.frames[i].Rec = lsn + 1
	}
	return api.OK
}

func (m *model) dirty() []api.Dirty {
	var l []api.Dirty
	for id := range maxPages {
		if i := m.at(id); i >= 0 && m.frames[i].Dirty {
			l = append(l, api.Dirty{Page: id, Rec: m.frames[i].Rec, Last: m.frames[i].Page.LSN})
		}
	}
	return l
}

// checkChange compares a change of a valid pool with what the model does.
func checkChange(t *testing.T, name string, p api.Pool, do change, model func(*model) api.Errno) {
	t.Helper()
	m := modelOf(p)
	if e := model(m); e != api.OK {
		refused(t, name, p, do, e)
		return
	}
	wantPool(t, name, p, do, m.pool())
}

// checkAll compares all functions with the model, for a page and a number.
func checkAll(t *testing.T, p api.Pool, x api.Page, lsn int) {
	t.Helper()
	right := rightPool(p)
	wantValid(t, "model", p, right)
	if !right {
		checkNothing(t, "model", p, x, lsn)
		return
	}
	i, found := modelOf(p).at(x.ID), api.Page{}
	used := api.Pool{Size: p.Size, Frames: slices.Clone(p.Frames), Hand: p.Hand}
	if i >= 0 {
		found = p.Frames[i].Page
		used.Frames[i].Used = true
	}
	wantFind(t, "model", p, x.ID, i)
	wantGet(t, "model", p, x.ID, found, i >= 0)
	wantUse(t, "model", p, x.ID, used)
	wantDirty(t, "model", p, modelOf(p).dirty()...)
	checkChange(t, "Put", p, put(x), func(m *model) api.Errno { return m.put(x) })
	checkChange(t, "Update", p, update(x), func(m *model) api.Errno { return m.update(x) })
	checkChange(t, "Drop", p, drop(x.ID), func(m *model) api.Errno { return m.drop(x.ID) })
	checkChange(t, "Clean", p, clean(x.ID, lsn), func(m *model) api.Errno { return m.clean(x.ID, lsn) })
	checkVictim(t, p)
}

// checkVictim compares Victim with the model, and with the Consequences.
func checkVictim(t *testing.T, p api.Pool) {
	t.Helper()
	m := modelOf(p)
	id, steps, e := m.victim()
	if e != api.OK {
		wantVictim(t, "model", p, 0, api.Pool{}, e)
		return
	}
	wantVictim(t, "model", p, id, m.pool(), api.OK)
	if steps > 2*len(p.Frames) {
		t.Errorf("the hand goes %d steps: %s", steps, show(p))
	}
	after, got, _ := pool.Victim(p)
	wantValid(t, "Victim", after, true)
	unused := slices.ContainsFunc(p.Frames, func(f api.Frame) bool { return !f.Used })
	if unused && p.Frames[pool.Find(p, got)].Used {
		t.Errorf("the victim %d was used, and another one was not: %s", got, show(p))
	}
	wantVictim(t, "again", after, got, after, api.OK)
}

// checkNothing checks what each function says of a pool that is not valid.
func checkNothing(t *testing.T, name string, p api.Pool, x api.Page, lsn int) {
	t.Helper()
	wantFind(t, name, p, x.ID, -1)
	wantGet(t, name, p, x.ID, api.Page{}, false)
	wantUse(t, name, p, x.ID, p)
	wantDirty(t, name, p)
	wantVictim(t, name, p, 0, api.Pool{}, api.ErrState)
	for _, do := range []change{put(x), update(x), drop(x.ID), clean(x.ID, lsn)} {
		refused(t, name, p, do, api.ErrState)
	}
}

// P10.1: a new pool.
func TestNew(t *testing.T) {
	for _, size := range []int{1, 2, 3, maxFrames - 1, maxFrames} {
		p, e := pool.New(size)
		if !same(p, of(size, 0)) || e != api.OK {
			t.Errorf("New %d: %s, %d", size, show(p), e)
		}
		wantValid(t, "new", p, true)
	}
	for _, size := range []int{0, -1, maxFrames + 1, -maxFrames, 1 << 32, 1<<32 + 1, math.MinInt, math.MaxInt} {
		if p, e := pool.New(size); !same(p, api.Pool{}) || e != api.ErrRange {
			t.Errorf("New %d: %s, %d", size, show(p), e)
		}
	}
}

// P10.1: a pool is valid if all that the chapter lists is true of it.
func TestValid(t *testing.T) {
	for _, c := range []struct {
		name string
		p    api.Pool
	}{
		{"no frames", of(1, 0)},
		{"no frames, an empty list", api.Pool{Size: 1, Frames: []api.Frame{}}},
		{"no frames of many", of(maxFrames, 0)},
		{"one frame, of one", of(1, 0, c(0, 0))},
		{"one frame less than Size", of(3, 0, some(2)...)},
		{"Size frames", of(3, 0, some(3)...)},
		{"all frames", of(maxFrames, 0, some(maxFrames)...)},
		{"all frames, the hand at the last one", of(maxFrames, maxFrames-1, some(maxFrames)...)},
		{"all but one", of(maxFrames, maxFrames-2, some(maxFrames-1)...)},
		{"the hand in the middle", of(4, 1, some(3)...)},
		{"the hand at the last frame", of(4, 2, some(3)...)},
		{"not in the order of the pages", of(4, 1, c(9, 1), du(3, 8, 8), cu(63, maxLSN), d(0, 2, 1))},
		{"one LSN in two frames", of(2, 0, c(1, 7), c(2, 7))},
		{"Rec 1", of(2, 0, d(1, 7, 1))},
		{"Rec is the LSN", of(2, 0, d(1, 7, 7))},
		{"Rec and the LSN are 1", of(2, 0, d(1, 1, 1))},
		{"Rec is the greatest LSN", of(2, 0, du(1, maxLSN, maxLSN))},
		{"empty cells", of(2, 0, api.Frame{Page: bare(5, 9), Dirty: true, Rec: 3})},
	} {
		wantValid(t, c.name, c.p, true)
	}
}

// wrong are pools that are not valid, each for a reason of its own; most of them have the page 2, which is clean, and the page 5, which is dirty.
func wrong() map[string]api.Pool {
	wrongID := func(id int) api.Pool { return of(4, 0, c(2, 4), d(5, 7, 3), api.Frame{Page: bare(id, 4)}) }
	set0 := api.Frame{Page: pg(3, 4)}
	set0.Page.LSN = 0
	long := api.Frame{Page: pg(3, 4)}
	long.Page.Cells[3] = api.Cell{Set: true, Data: "1234567890123"}
	return map[string]api.Pool{
		"nothing":                        {},
		"Size 0":                         of(0, 0),
		"Size 0, with frames":            of(0, 0, c(2, 4), d(5, 7, 3)),
		"Size -1":                        of(-1, 0),
		"Size -1, with frames":           of(-1, 0, c(2, 4), d(5, 7, 3)),
		"Size is too great":              of(maxFrames+1, 0, c(2, 4), d(5, 7, 3)),
		"Size is too great, no frames":   of(maxFrames+1, 0),
		"least Size":                     of(math.MinInt, 0, c(2, 4), d(5, 7, 3)),
		"greatest Size":                  of(math.MaxInt, 0, c(2, 4), d(5, 7, 3)),
		"a frame more than Size":         of(2, 0, c(2, 4), d(5, 7, 3), c(1, 1)),
		"two frames, of one":             of(1, 0, c(2, 4), d(5, 7, 3)),
		"a frame more than all":          of(maxFrames, 0, append(some(maxFrames), c(maxPages, 1))...),
		"Hand -1":                        of(4, -1, c(2, 4), d(5, 7, 3)),
		"Hand -1, no frames":             of(4, -1),
		"Hand 1, no frames":              of(4, 1),
		"Hand is the number of frames":   of(4, 2, c(2, 4), d(5, 7, 3)),
		"Hand 1 of one frame":            of(4, 1, c(2, 4)),
		"Hand is Size":                   of(2, 2, c(2, 4), d(5, 7, 3)),
		"greatest Hand":                  of(4, math.MaxInt, c(2, 4), d(5, 7, 3)),
		"least Hand":                     of(4, math.MinInt, c(2, 4), d(5, 7, 3)),
		"one page twice":                 of(4, 0, c(2, 4), d(5, 7, 3), c(2, 4)),
		"one page twice, side by side":   of(4, 0, c(2, 4), cu(2, 5), d(5, 7, 3)),
		"one page twice, the dirty one":  of(4, 0, c(2, 4), d(5, 7, 3), c(5, 7)),
		"the page 0 twice":               of(4, 0, c(0, 0), c(2, 4), d(5, 7, 3), c(0, 0)),
		"ID -1":                          wrongID(-1),
		"ID is too great":                wrongID(maxPages),
		"least ID":                       wrongID(math.MinInt),
		"greatest ID":                    wrongID(math.MaxInt),
		"LSN -1":                         of(4, 0, c(2, 4), d(5, 7, 3), api.Frame{Page: bare(3, -1)}),
		"LSN is too great":               of(4, 0, c(2, 4), d(5, 7, 3), api.Frame{Page: bare(3, maxLSN+1)}),
		"LSN is too great, and dirty":    of(4, 0, c(2, 4), d(5, 7, 3), d(3, maxLSN+1, 5)),
		"a cell that is set, with LSN 0": of(4, 0, c(2, 4), d(5, 7, 3), set0),
		"data of a cell that is not set": of(4, 0, c(2, 4), d(5, 7, 3), api.Frame{Page: wrongCell(3, 4)}),
		"too many data":                  of(4, 0, c(2, 4), d(5, 7, 3), long),
		"dirty, Rec 0":                   of(4, 0, c(2, 4), d(5, 7, 0)),
		"dirty, Rec -1":                  of(4, 0, c(2, 4), d(5, 7, -1)),
		"dirty, Rec behind the LSN":      of(4, 0, c(2, 4), d(5, 7, 8)),
		"dirty, LSN 0, Rec 0":            of(4, 0, c(2, 4), d(5, 0, 0)),
		"dirty, LSN 0, Rec 1":            of(4, 0, c(2, 4), d(5, 0, 1)),
		"clean, Rec 1":                   of(4, 0, api.Frame{Page: pg(2, 4), Rec: 1}, d(5, 7, 3)),
		"clean, Rec is the LSN":          of(4, 0, api.Frame{Page: pg(2, 4), Rec: 4}, d(5, 7, 3)),
		"clean, Rec -1":                  of(4, 0, api.Frame{Page: pg(2, 4), Rec: -1}, d(5, 7, 3)),
		"clean, LSN 0, Rec 1":            of(4, 0, c(2, 4), d(5, 7, 3), api.Frame{Page: pg(3, 0), Rec: 1}),
	}
}

// All functions: a pool that is not valid; ErrState goes before all other errors.
func TestNotValid(t *testing.T) {
	for name, p := range wrong() {
		wantValid(t, name, p, false)
		for _, id := range []int{2, 5, 3, 9, -1, 0, 1, maxPages, math.MinInt, math.MaxInt} {
			for _, lsn := range []int{4, 7, 5, 8, 3, 0, -1, math.MaxInt} {
				checkNothing(t, name, p, bare(id, lsn), lsn)
			}
		}
		checkNothing(t, name, p, wrongCell(5, 8), 8)
		checkNothing(t, name, p, wrongCell(9, 8), 8)
	}
}

// P10.1: Find, Get and Use.
func TestFindGetUse(t *testing.T) {
	frames := []api.Frame{c(9, 1), du(3, 8, 5), c(0, 0), d(63, maxLSN, 2)}
	for hand := range frames {
		p := of(5, hand, frames...)
		for i, f := range frames {
			id := f.Page.ID
			wantFind(t, "there", p, id, i)
			wantGet(t, "there", p, id, f.Page, true)
			f.Used = true
			used := of(5, hand, slices.Clone(frames)...)
			used.Frames[i] = f
			wantUse(t, "there", p, id, used)
			wantUse(t, "used already", used, id, used)
			wantValid(t, "used", used, true)
		}
		for _, id := range []int{1, 2, 4, 62, -1, maxPages, math.MinInt, math.MaxInt} {
			wantFind(t, "not there", p, id, -1)
			wantGet(t, "not there", p, id, api.Page{}, false)
			wantUse(t, "not there", p, id, p)
		}
	}
	for _, id := range []int{0, 1, -1, 63, maxPages} {
		wantFind(t, "no frames", of(1, 0), id, -1)
		wantGet(t, "no frames", of(1, 0), id, api.Page{}, false)
		wantUse(t, "no frames", of(1, 0), id, of(1, 0))
	}
}

// P10.2: a frame is added at the end, not dirty, used.
func TestPut(t *testing.T) {
	p := of(3, 0)
	wantPool(t, "the first frame", p, put(pg(9, 4)), of(3, 0, cu(9, 4)))
	wantPool(t, "the page 0", p, put(pg(0, 0)), of(3, 0, cu(0, 0)))
	wantPool(t, "the last page", p, put(pg(63, maxLSN)), of(3, 0, cu(63, maxLSN)))
	wantPool(t, "the only frame", of(1, 0), put(pg(9, 4)), of(1, 0, cu(9, 4)))
	wantPool(t, "the second frame", of(3, 0, d(9, 4, 2)), put(pg(2, 8)), of(3, 0, d(9, 4, 2), cu(2, 8)))
	for hand := range 2 {
		p := of(3, hand, d(9, 4, 2), c(2, 8))
		wantPool(t, "the last frame", p, put(pg(5, 1)), of(3, hand, d(9, 4, 2), c(2, 8), cu(5, 1)))
		wantPool(t, "with the LSN of another one", p, put(pg(5, 8)), of(3, hand, d(9, 4, 2), c(2, 8), cu(5, 8)))
	}
	p, want := of(maxFrames, 0), of(maxFrames, 0)
	for i := range maxFrames {
		id := i * 37 % maxPages
		want.Frames = append(want.Frames, cu(id, i))
		wantPool(t, "one after the other", p, put(pg(id, i)), want)
		p, _ = pool.Put(p, pg(id, i))
	}
}

// P10.2: the errors, in their order.
func TestPutErrors(t *testing.T) {
	p, full := of(3, 0, c(2, 4), d(5, 7, 3)), of(2, 0, c(2, 4), d(5, 7, 3))
	set0 := pg(5, 4)
	set0.LSN = 0
	for _, p := range []api.Pool{p, full} {
		for _, x := range []api.Page{bare(-1, 4), bare(maxPages, 4), bare(math.MaxInt, 4), bare(3, -1), bare(3, maxLSN+1), bare(3, math.MinInt), {ID: -1, LSN: -1}} {
			refused(t, "ErrRange, also before ErrLimit", p, put(x), api.ErrRange)
		}
		refused(t, "ErrRange before ErrData", p, put(wrongCell(-1, 4)), api.ErrRange)
		refused(t, "ErrRange before ErrThere", p, put(bare(5, -1)), api.ErrRange)
		refused(t, "ErrRange before ErrData and ErrThere", p, put(wrongCell(5, maxLSN+1)), api.ErrRange)
		refused(t, "ErrData, also before ErrLimit", p, put(wrongCell(3, 4)), api.ErrData)
		refused(t, "ErrData before ErrThere", p, put(wrongCell(5, 7)), api.ErrData)
		refused(t, "ErrData before ErrThere, LSN 0", p, put(set0), api.ErrData)
		for _, lsn := range []int{0, 1, 7, 8} {
			refused(t, "ErrThere, also before ErrLimit", p, put(pg(5, lsn)), api.ErrThere)
			refused(t, "ErrThere, also before ErrLimit", p, put(pg(2, lsn)), api.ErrThere)
		}
	}
	refused(t, "ErrLimit", full, put(pg(3, 4)), api.ErrLimit)
	refused(t, "ErrLimit", of(1, 0, c(0, 0)), put(pg(1, 0)), api.ErrLimit)
	refused(t, "all frames", of(maxFrames, 0, some(maxFrames)...), put(pg(63, 1)), api.ErrThere)
	refused(t, "all but one", of(maxFrames-1, 0, some(maxFrames-1)...), put(pg(63, 1)), api.ErrLimit)
	wantPool(t, "room for one", of(maxFrames, 0, some(maxFrames-1)...), put(pg(63, 1)), of(maxFrames, 0, append(some(maxFrames-1), cu(63, 1))...))
}

// P10.3: the frame becomes dirty and used; Rec is the first entry since it is dirty.
func TestUpdate(t *testing.T) {
	for hand := range 3 {
		p := of(4, hand, c(9, 4), d(3, 8, 5), cu(0, 0))
		wantPool(t, "a clean frame, one greater", p, update(pg(9, 5)), of(4, hand, du(9, 5, 5), d(3, 8, 5), cu(0, 0)))
		wantPool(t, "a clean frame, much greater", p, update(pg(9, maxLSN)), of(4, hand, du(9, maxLSN, maxLSN), d(3, 8, 5), cu(0, 0)))
		wantPool(t, "a dirty frame, one greater", p, update(pg(3, 9)), of(4, hand, c(9, 4), du(3, 9, 5), cu(0, 0)))
		wantPool(t, "a dirty frame, much greater", p, update(pg(3, maxLSN)), of(4, hand, c(9, 4), du(3, maxLSN, 5), cu(0, 0)))
		wantPool(t, "the first entry of a page", p, update(pg(0, 1)), of(4, hand, c(9, 4), d(3, 8, 5), du(0, 1, 1)))
		wantPool(t, "cells that are empty again", p, update(bare(3, 9)), of(4, hand, c(9, 4), api.Frame{Page: bare(3, 9), Dirty: true, Rec: 5, Used: true}, cu(0, 0)))
	}
	wantPool(t, "a full pool", of(1, 0, c(9, 4)), update(pg(9, 6)), of(1, 0, du(9, 6, 6)))
	p := of(2, 0, c(9, 4))
	for lsn := 6; lsn < 20; lsn += 3 {
		wantPool(t, "again and again", p, update(pg(9, lsn)), of(2, 0, du(9, lsn, 6)))
		p, _ = pool.Update(p, pg(9, lsn))
	}
}

// P10.3: the errors, in their order.
func TestUpdateErrors(t *testing.T) {
	for _, p := range []api.Pool{of(4, 1, c(9, 4), d(3, 8, 5), cu(0, 0)), of(3, 0, c(9, 4), d(3, 8, 5), cu(0, 0)), of(3, 2, cu(9, 4), du(3, 8, 8), c(0, 0))} {
		for _, x := range []api.Page{bare(-1, 9), bare(maxPages, 9), bare(math.MinInt, 9), bare(7, -1), bare(7, maxLSN+1), bare(7, math.MaxInt)} {
			refused(t, "ErrRange, also before ErrMissing", p, update(x), api.ErrRange)
		}
		refused(t, "ErrRange of a page that is there", p, update(bare(9, maxLSN+1)), api.ErrRange)
		refused(t, "ErrRange before ErrStale", p, update(bare(9, -1)), api.ErrRange)
		refused(t, "ErrRange before ErrData", p, update(wrongCell(9, -1)), api.ErrRange)
		refused(t, "ErrData", p, update(wrongCell(9, 5)), api.ErrData)
		refused(t, "ErrData before ErrMissing", p, update(wrongCell(7, 5)), api.ErrData)
		refused(t, "ErrData before ErrStale", p, update(wrongCell(9, 4)), api.ErrData)
		refused(t, "ErrMissing", p, update(pg(7, 5)), api.ErrMissing)
		refused(t, "ErrMissing", p, update(pg(63, 0)), api.ErrMissing)
		refused(t, "ErrStale, the same LSN", p, update(pg(9, 4)), api.ErrStale)
		refused(t, "ErrStale, the same LSN with other cells", p, update(bare(9, 4)), api.ErrStale)
		refused(t, "ErrStale, one less", p, update(pg(9, 3)), api.ErrStale)
		refused(t, "ErrStale of a dirty frame", p, update(pg(3, 8)), api.ErrStale)
		refused(t, "ErrStale of a dirty frame, one less", p, update(pg(3, 7)), api.ErrStale)
		refused(t, "ErrStale of a dirty frame, below Rec", p, update(pg(3, 4)), api.ErrStale)
		refused(t, "ErrStale, LSN 0", p, update(pg(9, 0)), api.ErrStale)
		refused(t, "ErrStale, both LSNs 0", p, update(pg(0, 0)), api.ErrStale)
	}
	refused(t, "no frames", of(1, 0), update(pg(0, 1)), api.ErrMissing)
	refused(t, "no frames", of(1, 0), update(wrongCell(0, 1)), api.ErrData)
}

// P10.4: the hand goes on to the first frame that is not used, over those that are, which it marks as not used.
func TestVictim(t *testing.T) {
	wantVictim(t, "none is used, the hand at the first one", of(4, 0, c(9, 1), d(3, 8, 5), c(0, 0)), 9, of(4, 0, c(9, 1), d(3, 8, 5), c(0, 0)), api.OK)
	wantVictim(t, "none is used, the hand in the middle", of(4, 1, c(9, 1), d(3, 8, 5), c(0, 0)), 3, of(4, 1, c(9, 1), d(3, 8, 5), c(0, 0)), api.OK)
	wantVictim(t, "none is used, the hand at the last one", of(4, 2, c(9, 1), d(3, 8, 5), c(0, 0)), 0, of(4, 2, c(9, 1), d(3, 8, 5), c(0, 0)), api.OK)
	none := []api.Frame{c(9, 1), d(3, 8, 5), c(0, 0)}
	for hand := range none {
		p := of(4, hand, cu(9, 1), du(3, 8, 5), cu(0, 0))
		wantVictim(t, "all are used", p, none[hand].Page.ID, of(4, hand, none...), api.OK)
	}
	wantVictim(t, "under the hand, the others used", of(3, 1, cu(9, 1), d(3, 8, 5), cu(0, 0)), 3, of(3, 1, cu(9, 1), d(3, 8, 5), cu(0, 0)), api.OK)
	wantVictim(t, "the next one", of(3, 0, cu(9, 1), d(3, 8, 5), cu(0, 0)), 3, of(3, 1, c(9, 1), d(3, 8, 5), cu(0, 0)), api.OK)
	wantVictim(t, "the last one", of(3, 0, cu(9, 1), du(3, 8, 5), c(0, 0)), 0, of(3, 2, c(9, 1), d(3, 8, 5), c(0, 0)), api.OK)
	wantVictim(t, "before the hand, over the end", of(3, 1, c(9, 1), du(3, 8, 5), cu(0, 0)), 9, of(3, 0, c(9, 1), d(3, 8, 5), c(0, 0)), api.OK)
	wantVictim(t, "from the last one over the end", of(3, 2, c(9, 1), du(3, 8, 5), cu(0, 0)), 9, of(3, 0, c(9, 1), du(3, 8, 5), c(0, 0)), api.OK)
	wantVictim(t, "just before the hand", of(3, 2, cu(9, 1), d(3, 8, 5), cu(0, 0)), 3, of(3, 1, c(9, 1), d(3, 8, 5), c(0, 0)), api.OK)
	wantVictim(t, "the first one of two", of(4, 1, cu(9, 1), cu(3, 8), c(0, 0), c(7, 2)), 0, of(4, 2, cu(9, 1), c(3, 8), c(0, 0), c(7, 2)), api.OK)
	wantVictim(t, "one frame, used", of(1, 0, cu(9, 1)), 9, of(1, 0, c(9, 1)), api.OK)
	wantVictim(t, "one frame, used and dirty", of(2, 0, du(9, 3, 1)), 9, of(2, 0, d(9, 3, 1)), api.OK)
	wantVictim(t, "one frame, not used", of(2, 0, c(9, 1)), 9, of(2, 0, c(9, 1)), api.OK)
	wantVictim(t, "no frames", of(1, 0), 0, api.Pool{}, api.ErrMissing)
	wantVictim(t, "no frames", of(maxFrames, 0), 0, api.Pool{}, api.ErrMissing)
	for _, hand := range []int{0, 1, 32, maxFrames - 1} {
		all := some(maxFrames)
		for i := range all {
			all[i].Used = true
		}
		wantVictim(t, "the largest pool, all used", of(maxFrames, hand, all...), hand, of(maxFrames, hand, some(maxFrames)...), api.OK)
	}
}

// P10.4: a victim that is not dropped is the victim again, until it is used.
func TestVictimAgain(t *testing.T) {
	p := of(3, 1, cu(9, 1), cu(3, 8), cu(0, 0))
	for range 4 {
		wantVictim(t, "without use", p, 3, of(3, 1, c(9, 1), c(3, 8), c(0, 0)), api.OK)
		p, _, _ = pool.Victim(p)
	}
	p = pool.Use(p, 3)
	wantVictim(t, "the victim is used", p, 0, of(3, 2, c(9, 1), c(3, 8), c(0, 0)), api.OK)
	p, _, _ = pool.Victim(p)
	p = pool.Use(pool.Use(p, 0), 9)
	wantVictim(t, "over the end", p, 3, of(3, 1, c(9, 1), c(3, 8), c(0, 0)), api.OK)
	p, _, _ = pool.Victim(p)
	p, _ = pool.Drop(p, 3)
	wantVictim(t, "the victim is dropped", p, 0, of(3, 1, c(9, 1), c(0, 0)), api.OK)
	p, _ = pool.Put(p, pg(5, 5))
	wantVictim(t, "another one has come", p, 0, of(3, 1, c(9, 1), c(0, 0), cu(5, 5)), api.OK)
	p = pool.Use(p, 0)
	wantVictim(t, "and is passed", p, 9, of(3, 0, c(9, 1), c(0, 0), c(5, 5)), api.OK)
}

// P10.5: the frame is removed, and the hand stays with its frame, or goes to the next one.
func TestDrop(t *testing.T) {
	a, b, x, y := c(9, 1), du(3, 8, 5), cu(0, 0), c(7, 2)
	for _, c := range []struct {
		name string
		id   int
		from int // the hand before
		to   int // the hand behind it
		want []api.Frame
	}{
		{"the first one, under the hand", 9, 0, 0, []api.Frame{b, x, y}},
		{"the first one, the hand behind it", 9, 1, 0, []api.Frame{b, x, y}},
		{"the first one, the hand at the last one", 9, 3, 2, []api.Frame{b, x, y}},
		{"in the middle, the hand before it", 0, 0, 0, []api.Frame{a, b, y}},
		{"in the middle, the hand just before it", 0, 1, 1, []api.Frame{a, b, y}},
		{"in the middle, under the hand", 0, 2, 2, []api.Frame{a, b, y}},
		{"in the middle, the hand behind it", 0, 3, 2, []api.Frame{a, b, y}},
		{"the last one, the hand before it", 7, 0, 0, []api.Frame{a, b, x}},
		{"the last one, the hand just before it", 7, 2, 2, []api.Frame{a, b, x}},
		{"the last one, under the hand", 7, 3, 0, []api.Frame{a, b, x}},
	} {
		for _, size := range []int{4, 5, maxFrames} {
			wantPool(t, c.name, of(size, c.from, a, b, x, y), drop(c.id), of(size, c.to, c.want...))
		}
	}
	wantPool(t, "the only one", of(1, 0, a), drop(9), of(1, 0))
	wantPool(t, "the only one, of two", of(2, 0, x), drop(0), of(2, 0))
	wantPool(t, "the first one of two, under the hand", of(2, 0, a, b), drop(9), of(2, 0, b))
	wantPool(t, "the first one of two, the hand behind it", of(2, 1, a, b), drop(9), of(2, 0, b))
	wantPool(t, "the second one of two, the hand before it", of(2, 0, b, a), drop(9), of(2, 0, b))
	wantPool(t, "the second one of two, under the hand", of(2, 1, b, a), drop(9), of(2, 0, b))
	wantPool(t, "of all frames, the last one under the hand", of(maxFrames, 63, some(maxFrames)...), drop(63), of(maxFrames, 0, some(63)...))
}

// P10.5: the errors, in their order.
func TestDropErrors(t *testing.T) {
	for hand := range 3 {
		p := of(3, hand, c(9, 4), d(3, 8, 5), du(0, 1, 1))
		for _, id := range []int{1, 2, 63, -1, maxPages, math.MinInt, math.MaxInt} {
			refused(t, "ErrMissing", p, drop(id), api.ErrMissing)
		}
		refused(t, "ErrNeeded", p, drop(3), api.ErrNeeded)
		refused(t, "ErrNeeded", p, drop(0), api.ErrNeeded)
	}
	refused(t, "the only one, dirty", of(1, 0, d(3, 8, 5)), drop(3), api.ErrNeeded)
	refused(t, "no frames", of(1, 0), drop(0), api.ErrMissing)
	p := of(2, 0, c(9, 4))
	p, _ = pool.Drop(p, 9)
	refused(t, "dropped already", p, drop(9), api.ErrMissing)
	wantPool(t, "and put again", p, put(pg(9, 4)), of(2, 0, cu(9, 4)))
}

// P10.6: what was written is not dirty any more, or less.
func TestClean(t *testing.T) {
	for hand := range 3 {
		p := of(3, hand, c(9, 4), d(3, 8, 5), du(0, 1, 1))
		wantPool(t, "the LSN of the page", p, clean(3, 8), of(3, hand, c(9, 4), c(3, 8), du(0, 1, 1)))
		wantPool(t, "one less", p, clean(3, 7), of(3, hand, c(9, 4), d(3, 8, 8), du(0, 1, 1)))
		wantPool(t, "one more than Rec", p, clean(3, 6), of(3, hand, c(9, 4), d(3, 8, 7), du(0, 1, 1)))
		wantPool(t, "Rec", p, clean(3, 5), of(3, hand, c(9, 4), d(3, 8, 6), du(0, 1, 1)))
		for _, lsn := range []int{4, 3, 1, 0, -1, -5, math.MinInt} {
			wantPool(t, "less than Rec", p, clean(3, lsn), p)
		}
		wantPool(t, "the LSN 1, of a used frame", p, clean(0, 1), of(3, hand, c(9, 4), d(3, 8, 5), cu(0, 1)))
		for _, lsn := range []int{0, -1, math.MinInt} {
			wantPool(t, "below 1", p, clean(0, lsn), p)
		}
		for _, lsn := range []int{4, 3, 1, 0, -1, math.MinInt} {
			wantPool(t, "it is not dirty", p, clean(9, lsn), p)
		}
	}
	p := of(2, 0, d(9, maxLSN, maxLSN))
	wantPool(t, "the greatest LSN", p, clean(9, maxLSN), of(2, 0, c(9, maxLSN)))
	wantPool(t, "below the greatest LSN", p, clean(9, maxLSN-1), p)
	wantPool(t, "up to the greatest LSN", of(1, 0, du(9, maxLSN, 1)), clean(9, maxLSN-1), of(1, 0, du(9, maxLSN, maxLSN)))
	wantPool(t, "LSN 0", of(1, 0, cu(9, 0)), clean(9, 0), of(1, 0, cu(9, 0)))
	p, _ = pool.Clean(of(1, 0, d(9, 8, 5)), 9, 6)
	p, _ = pool.Clean(p, 9, 5)
	wantPool(t, "an earlier write is told later", p, clean(9, 6), of(1, 0, d(9, 8, 7)))
	p, _ = pool.Clean(p, 9, 8)
	wantPool(t, "dirty again", p, update(pg(9, 20)), of(1, 0, du(9, 20, 20)))
}

// P10.6: the errors, in their order.
func TestCleanErrors(t *testing.T) {
	p := of(4, 1, c(9, 4), d(3, 8, 5), du(0, 1, 1), c(7, 0))
	for _, id := range []int{1, 2, 63, -1, maxPages, math.MinInt, math.MaxInt} {
		for _, lsn := range []int{-1, 0, 1, 8, math.MaxInt} {
			refused(t, "ErrMissing", p, clean(id, lsn), api.ErrMissing)
		}
	}
	for _, more := range []int{1, 2, maxLSN, math.MaxInt - 8} {
		refused(t, "ErrFuture", p, clean(3, 8+more), api.ErrFuture)
		refused(t, "ErrFuture", p, clean(0, 1+more), api.ErrFuture)
		refused(t, "ErrFuture, also if it is not dirty", p, clean(9, 4+more), api.ErrFuture)
		refused(t, "ErrFuture, LSN 0", p, clean(7, more), api.ErrFuture)
	}
	refused(t, "the greatest number", p, clean(3, math.MaxInt), api.ErrFuture)
	refused(t, "no frames", of(1, 0), clean(0, 0), api.ErrMissing)
}

// P10.7: ascending by page, whatever the order of the frames is.
func TestDirty(t *testing.T) {
	for hand := range 6 {
		p := of(7, hand, d(9, 4, 2), c(5, 3), du(63, maxLSN, 1), cu(12, 8), d(0, 1, 1), du(3, 8, 8))
		wantDirty(t, "not in order", p, api.Dirty{Page: 0, Rec: 1, Last: 1}, api.Dirty{Page: 3, Rec: 8, Last: 8}, api.Dirty{Page: 9, Rec: 2, Last: 4}, api.Dirty{Page: 63, Rec: 1, Last: maxLSN})
	}
	wantDirty(t, "no frames", of(1, 0))
	wantDirty(t, "none is dirty", of(3, 0, c(9, 4), cu(3, 8)))
	wantDirty(t, "one", of(1, 0, du(9, 4, 3)), api.Dirty{Page: 9, Rec: 3, Last: 4})
	all, want := of(maxFrames, 0), []api.Dirty{}
	for i := range maxFrames {
		id := maxFrames - 1 - i
		all.Frames = append(all.Frames, d(id, 100+id, 50-id/2))
		want = append(want, api.Dirty{Page: i, Rec: 50 - i/2, Last: 100 + i})
	}
	wantDirty(t, "all, backwards", all, want...)
}

// P10.1 to P10.7: all pools of up to four frames, clean or dirty, used or not, with the hand at each of them, and in places where it cannot be.
func TestAllSmallPools(t *testing.T) {
	ids := []int{5, 2, 40, 0}
	for n := range len(ids) + 1 {
		for set := range 1 << (2 * n) {
			var frames []api.Frame
			for i, id := range ids[:n] {
				f := c(id, 10)
				if set>>i&1 == 1 {
					f = d(id, 10, 7+i)
				}
				f.Used = set>>(n+i)&1 == 1
				frames = append(frames, f)
			}
			for hand := -1; hand <= n+1; hand++ {
				p := of(n+set%2, hand, frames...)
				for i, id := range append(ids, 63) {
					checkAll(t, p, pg(id, 9+(set+i)%3), 5+(set+hand+i)%7)
				}
			}
		}
	}
}

// somePage is a page of any state; mostly a valid one.
func somePage(r *rand.Rand, top int) api.Page {
	switch r.Intn(40) {
	case 0:
		return wrongCell(r.Intn(10), r.Intn(top))
	case 1:
		return bare(r.Intn(10)-5, r.Intn(top)-top/2)
	case 2:
		return bare(64+r.Intn(2)-r.Intn(70), maxLSN+r.Intn(3)-1)
	}
	return pg(r.Intn(10), r.Intn(top))
}

// P10.1 to P10.7: random pools, valid or not.
func TestRandomPools(t *testing.T) {
	r := rand.New(rand.NewSource(10))
	right := 0
	for range 20000 {
		p := of(1+r.Intn(8), 0)
		for range r.Intn(p.Size + 1) {
			f := api.Frame{Page: somePage(r, 12), Used: r.Intn(2) > 0}
			if r.Intn(2) > 0 {
				f.Dirty, f.Rec = true, 1+r.Intn(max(1, f.Page.LSN))
			}
			if next := of(p.Size, 0, slices.Concat(p.Frames, []api.Frame{f})...); rightPool(next) || r.Intn(60) == 0 {
				p = next
			}
		}
		p.Hand = r.Intn(max(1, len(p.Frames)))
		switch r.Intn(60) {
		case 0:
			p.Hand = len(p.Frames)
		case 1:
			p.Size = len(p.Frames) - r.Intn(2)
		}
		if rightPool(p) {
			right++
		}
		checkAll(t, p, somePage(r, 14), r.Intn(16)-2)
	}
	if right < 17000 || right > 19900 {
		t.Errorf("%d of the pools are valid", right)
	}
}

// step does something with a pool, at random, as a store does: the pool after it, and what was done.
func step(r *rand.Rand, p api.Pool, lsn int) (api.Pool, string) {
	id := r.Intn(10)
	x, there := pool.Get(p, id)
	var next api.Pool
	var e api.Errno
	done := ""
	switch kind := r.Intn(12); {
	case !there && len(p.Frames) == p.Size:
		var victim int
		next, victim, e = pool.Victim(p)
		if e == api.OK {
			y, _ := pool.Get(next, victim)
			next, e = pool.Clean(next, victim, y.LSN)
		}
		if e == api.OK {
			next, e = pool.Drop(next, victim)
		}
		done = "room"
	case !there:
		next, e = pool.Put(p, pg(id, r.Intn(lsn+1)))
		done = "put"
	case kind < 4:
		next, done = pool.Use(p, id), "use"
	case kind < 8 && x.LSN < lsn:
		next, e = pool.Update(p, pg(id, lsn))
		done = "update"
	case kind < 11:
		next, e = pool.Clean(p, id, r.Intn(x.LSN+1))
		done = "clean"
	default:
		next, e = pool.Drop(p, id)
		done = "drop"
	}
	if e != api.OK {
		return p, done + " refused"
	}
	return next, done
}

// P10.1 to P10.7, R2: histories; each pool is valid, each step is that of the model, and no pool is changed by what is done with it later.
func TestHistories(t *testing.T) {
	r := rand.New(rand.NewSource(100))
	done := map[string]int{}
	for n := range 200 {
		p, e := pool.New(1 + n%7)
		if e != api.OK {
			t.Fatal(e)
		}
		var pools, copies []api.Pool
		for lsn := range 60 {
			checkAll(t, p, somePage(r, lsn+2), r.Intn(lsn+2)-1)
			pools = append(pools, p)
			copies = append(copies, of(p.Size, p.Hand, slices.Clone(p.Frames)...))
			next, what := step(r, p, lsn)
			done[what]++
			wantValid(t, what, next, true)
			p = next
		}
		for i := range pools {
			if !same(pools[i], copies[i]) {
				t.Fatalf("a pool was changed later: %s, before %s", show(pools[i]), show(copies[i]))
			}
		}
	}
	for _, what := range []string{"room", "put", "use", "update", "clean", "drop", "drop refused"} {
		if done[what] < 50 {
			t.Errorf("%s: only %d times, of %v", what, done[what], done)
		}
	}
}

// Consequences: a page that was used since the hand has passed is not the victim if another one was not. The test remembers itself what the hand has passed.
func TestSecondChance(t *testing.T) {
	r := rand.New(rand.NewSource(1000))
	chances := 0
	for n := range 300 {
		p, _ := pool.New(2 + n%6)
		used := map[int]bool{} // since the hand has passed
		for id := range p.Size {
			p, _ = pool.Put(p, pg(id, 1))
			used[id] = true
		}
		for lsn := 2; lsn < 40; lsn++ {
			for range r.Intn(2 * p.Size) {
				id := r.Intn(p.Size)
				p, used[id] = pool.Use(p, id), true
			}
			all := !slices.ContainsFunc(p.Frames, func(f api.Frame) bool { return !used[f.Page.ID] })
			from := p.Hand
			next, victim, e := pool.Victim(p)
			if e != api.OK || used[victim] && !all {
				t.Fatalf("the victim is %d, %d: %s, used %v", victim, e, show(p), used)
			}
			if all && next.Hand != from {
				t.Fatalf("all are used, and the hand does not come back: %s, %s", show(p), show(next))
			}
			if !all {
				chances++
			}
			for i := from; i != next.Hand || all && len(used) > 0; i = (i + 1) % p.Size {
				delete(used, p.Frames[i].Page.ID)
			}
			p = next
		}
	}
	if chances < 3000 {
		t.Errorf("only %d times not all were used", chances)
	}
}

// Example 1, of the chapter.
func TestExample(t *testing.T) {
	p, _ := pool.New(2)
	p, _ = pool.Put(p, page.New(3))
	p, _ = pool.Put(p, page.New(5))
	wantVictim(t, "both used", p, 3, of(2, 0, c(3, 0), c(5, 0)), api.OK)
}
