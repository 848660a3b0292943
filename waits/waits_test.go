package waits_test

import (
	"fmt"
	"math"
	"math/rand"
	"slices"
	"testing"

	"pagemend/api"
	"pagemend/locks"
	"pagemend/waits"
)

const (
	maxLocks = 1024
	maxTx    = 1 << 30
	maxPages = 64
	slots    = 16
)

// s is a shared grant, x an exclusive one.
func s(tx, page, slot int) api.Grant { return grant(tx, page, slot, 1) }

func x(tx, page, slot int) api.Grant { return grant(tx, page, slot, 2) }

func grant(tx, page, slot, mode int) api.Grant {
	return api.Grant{Tx: tx, Lock: api.Lock{Page: page, Slot: slot}, Mode: mode}
}

func table(held []api.Grant, waiting ...api.Grant) api.Locks {
	return api.Locks{Held: held, Waiting: waiting}
}

func held(l ...api.Grant) []api.Grant { return l }

func txs(l ...int) []int { return l }

// show tells a table in short.
func show(l api.Locks) string {
	if len(l.Held)+len(l.Waiting) > 40 {
		return fmt.Sprintf("%d held, %d waiting", len(l.Held), len(l.Waiting))
	}
	return fmt.Sprintf("held %v waiting %v", l.Held, l.Waiting)
}

// kept calls do with the table in new memory with spare capacity, and checks that this memory stays (R2).
func kept(t *testing.T, l api.Locks, do func(api.Locks)) {
	t.Helper()
	spare := grant(-7, -7, -7, -7)
	h := append(slices.Clone(l.Held), spare, spare, spare)
	w := append(slices.Clone(l.Waiting), spare, spare, spare)
	hBefore, wBefore := slices.Clone(h), slices.Clone(w)
	do(api.Locks{Held: h[:len(l.Held)], Waiting: w[:len(l.Waiting)]})
	if !slices.Equal(h, hBefore) || !slices.Equal(w, wBefore) {
		t.Errorf("the argument was changed: %s", show(l))
	}
}

func wantFor(t *testing.T, name string, l api.Locks, tx int, want ...int) {
	t.Helper()
	kept(t, l, func(l api.Locks) {
		if got := waits.For(l, tx); !slices.Equal(got, want) {
			t.Errorf("%s: For %d is %v, want %v: %s", name, tx, got, want, show(l))
		}
	})
}

func wantEdges(t *testing.T, name string, l api.Locks, want ...[2]int) {
	t.Helper()
	kept(t, l, func(l api.Locks) {
		if got := waits.Edges(l); !slices.Equal(got, want) {
			t.Errorf("%s: Edges are %v, want %v: %s", name, got, want, show(l))
		}
	})
}

func wantCycle(t *testing.T, name string, l api.Locks, tx int, want ...int) {
	t.Helper()
	kept(t, l, func(l api.Locks) {
		if got := waits.Cycle(l, tx); !slices.Equal(got, want) {
			t.Errorf("%s: Cycle of %d is %v, want %v: %s", name, tx, got, want, show(l))
		}
	})
}

func wantWould(t *testing.T, name string, l api.Locks, g api.Grant, want []int, wantErr api.Errno) {
	t.Helper()
	kept(t, l, func(l api.Locks) {
		if got, e := waits.Would(l, g); !slices.Equal(got, want) || e != wantErr {
			t.Errorf("%s: Would of %v is %v, %d, want %v, %d: %s", name, g, got, e, want, wantErr, show(l))
		}
	})
}

// refused checks that Would has an error, and nothing beside it (R4).
func refused(t *testing.T, name string, l api.Locks, g api.Grant, want api.Errno) {
	t.Helper()
	wantWould(t, name, l, g, nil, want)
}

// full is n shared grants of the transaction 1, of all cells from the first one on, n at most 1024.
func full(n int) []api.Grant {
	var l []api.Grant
	for i := range n {
		l = append(l, s(1, i/slots, i%slots))
	}
	return l
}

// cell is the cell with a number, counted over all pages.
func cell(n int) api.Lock { return api.Lock{Page: n / slots, Slot: n % slots} }

// graph is a table with these edges and no others: each transaction that waits has a cell of its own, which it wants exclusive, and those it waits for hold that one shared. They wait in the order of their numbers, or in the other one.
func graph(edges [][2]int, backwards bool) api.Locks {
	cells, l := map[int]api.Lock{}, api.Locks{}
	for _, e := range edges {
		if _, there := cells[e[0]]; !there {
			cells[e[0]] = cell(len(cells))
			l.Waiting = append(l.Waiting, api.Grant{Tx: e[0], Lock: cells[e[0]], Mode: 2})
		}
		l.Held = append(l.Held, api.Grant{Tx: e[1], Lock: cells[e[0]], Mode: 1})
	}
	slices.SortFunc(l.Held, compare)
	slices.SortFunc(l.Waiting, func(a, b api.Grant) int { return a.Tx - b.Tx })
	if backwards {
		slices.Reverse(l.Waiting)
	}
	return l
}

func compare(a, b api.Grant) int {
	return slices.Compare([]int{a.Lock.Page, a.Lock.Slot, a.Tx}, []int{b.Lock.Page, b.Lock.Slot, b.Tx})
}

// row is the edges from each transaction of a list to the next one.
func row(list ...int) [][2]int {
	var edges [][2]int
	for i := range list[1:] {
		edges = append(edges, [2]int{list[i], list[i+1]})
	}
	return edges
}

// ring is those of a row, and from the last one to the first one.
func ring(list ...int) [][2]int { return row(append(slices.Clone(list), list[0])...) }

// join is the edges of several lists, each once.
func join(lists ...[][2]int) [][2]int {
	all := slices.Concat(lists...)
	slices.SortFunc(all, comparePairs)
	return slices.Compact(all)
}

func comparePairs(a, b [2]int) int { return slices.Compare(a[:], b[:]) }

// The models follow the chapter's text, with no regard to how long they take.

func conflicts(a, b api.Grant) bool {
	return a.Tx != b.Tx && a.Lock == b.Lock && (a.Mode == 2 || b.Mode == 2)
}

// waitsFor reports whether a waits for b in a table that is valid.
func waitsFor(l api.Locks, a, b int) bool {
	for i, w := range l.Waiting {
		for _, g := range slices.Concat(l.Held, l.Waiting[:i]) {
			if w.Tx == a && g.Tx == b && conflicts(w, g) {
				return true
			}
		}
	}
	return false
}

// named is the transactions of a table, ascending.
func named(l api.Locks) []int {
	var all []int
	for _, g := range slices.Concat(l.Held, l.Waiting) {
		all = append(all, g.Tx)
	}
	slices.Sort(all)
	return slices.Compact(all)
}

// edgesOf is all pairs of which the first one waits for the second one, ascending by both; none if the table is not valid.
func edgesOf(l api.Locks) [][2]int {
	var edges [][2]int
	if !locks.Valid(l) {
		return nil
	}
	for _, a := range named(l) {
		for _, b := range named(l) {
			if waitsFor(l, a, b) {
				edges = append(edges, [2]int{a, b})
			}
		}
	}
	return edges
}

func forOf(edges [][2]int, tx int) []int {
	var others []int
	for _, e := range edges {
		if e[0] == tx {
			others = append(others, e[1])
		}
	}
	return others
}

// cyclesOf yields all cycles that begin with the first of path, which is a row of edges, and go on with the others of it. No transaction is twice in one of them: what lies between could be left out.
func cyclesOf(edges [][2]int, path []int, yield func([]int)) {
	for _, e := range edges {
		switch {
		case e[0] != path[len(path)-1]:
		case e[1] == path[0]:
			yield(path)
		case !slices.Contains(path, e[1]):
			cyclesOf(edges, append(slices.Clone(path), e[1]), yield)
		}
	}
}

// cycleOf is the least of all cycles through a transaction: the shortest ones first, and of these the lexicographically least.
func cycleOf(edges [][2]int, tx int) []int {
	var least []int
	cyclesOf(edges, []int{tx}, func(c []int) {
		if least == nil || len(c) < len(least) || len(c) == len(least) && slices.Compare(c, least) < 0 {
			least = c
		}
	})
	return least
}

// cyclic reports whether there is a cycle: whether some are left when all those are taken away, again and again, that wait for nobody who is left.
func cyclic(edges [][2]int) bool {
	for {
		rest := slices.DeleteFunc(slices.Clone(edges), func(e [2]int) bool { return len(forOf(edges, e[1])) == 0 })
		if len(rest) == len(edges) {
			return len(rest) > 0
		}
		edges = rest
	}
}

// checkAll compares For, Edges and Cycle with the models, for all transactions of a table and some that are not in it.
func checkAll(t *testing.T, l api.Locks) {
	t.Helper()
	edges := edgesOf(l)
	wantEdges(t, "model", l, edges...)
	for _, tx := range append(named(l), 0, -1, maxTx, maxTx+1, math.MinInt, math.MaxInt) {
		wantFor(t, "model", l, tx, forOf(edges, tx)...)
		wantCycle(t, "model", l, tx, cycleOf(edges, tx)...)
	}
}

// checkWould compares Would with the table that locks.Request returns.
func checkWould(t *testing.T, l api.Locks, g api.Grant) {
	t.Helper()
	next, _, e := locks.Request(l, g)
	if e != api.OK {
		refused(t, "model", l, g, e)
		return
	}
	wantWould(t, "model", l, g, cycleOf(edgesOf(next), g.Tx), api.OK)
}

// P9.1: those that hold a grant that conflicts, and those that wait for one before.
func TestFor(t *testing.T) {
	l := table(
		held(s(1, 0, 0), s(4, 0, 0), s(7, 0, 0), x(3, 0, 1), s(2, 1, 0), s(5, 1, 0), s(9, 1, 1)),
		x(4, 0, 0), x(8, 0, 0), s(6, 0, 1), x(1, 0, 0), s(2, 0, 0), s(10, 0, 1), x(11, 0, 1), x(5, 1, 0),
	)
	wantFor(t, "an upgrade waits for the others that hold it", l, 4, 1, 7)
	wantFor(t, "all that hold it, one of which waits before it, too", l, 8, 1, 4, 7)
	wantFor(t, "holds it shared itself, and two wait before it", l, 1, 4, 7, 8)
	wantFor(t, "shared: only for the exclusive ones before it", l, 2, 1, 4, 8)
	wantFor(t, "shared: for the one that holds it", l, 6, 3)
	wantFor(t, "shared: not for the shared one before it", l, 10, 3)
	wantFor(t, "exclusive: for the one that holds it, and the shared ones before it", l, 11, 3, 6, 10)
	wantFor(t, "an upgrade waits for the other one", l, 5, 2)
	for _, tx := range txs(3, 7, 9) {
		wantFor(t, "it only holds", l, tx)
	}
	for _, tx := range txs(12, 0, -1, -4, maxTx, maxTx+1, math.MinInt, math.MaxInt) {
		wantFor(t, "it is not there", l, tx)
	}
	for _, tx := range txs(1, 0, -1) {
		wantFor(t, "empty", api.Locks{}, tx)
		wantFor(t, "nobody waits", table(held(s(1, 0, 0), s(2, 0, 0))), tx)
	}
	wantFor(t, "the greatest number waits for it, and for the least one", table(held(s(1, 63, 15), s(maxTx, 63, 15)), x(maxTx, 63, 15)), maxTx, 1)
	wantFor(t, "for the greatest number", table(held(x(maxTx, 63, 15)), s(1, 63, 15)), 1, maxTx)
}

// P9.1: what is an edge, and what is none.
func TestOneEdge(t *testing.T) {
	for _, c := range []struct {
		name string
		l    api.Locks
		want []int
	}{
		{"exclusive for exclusive", table(held(x(1, 2, 2)), x(5, 2, 2)), txs(1)},
		{"shared for exclusive", table(held(x(1, 2, 2)), s(5, 2, 2)), txs(1)},
		{"exclusive for shared", table(held(s(1, 2, 2)), x(5, 2, 2)), txs(1)},
		{"shared with shared", table(held(s(1, 2, 2)), s(5, 2, 2)), nil},
		{"behind exclusive", table(nil, x(1, 2, 2), s(5, 2, 2)), txs(1)},
		{"exclusive behind shared", table(nil, s(1, 2, 2), x(5, 2, 2)), txs(1)},
		{"exclusive behind exclusive", table(nil, x(1, 2, 2), x(5, 2, 2)), txs(1)},
		{"shared behind shared", table(nil, s(1, 2, 2), s(5, 2, 2)), nil},
		{"before exclusive", table(nil, x(5, 2, 2), x(1, 2, 2)), nil},
		{"behind it is shared", table(nil, x(5, 2, 2), s(1, 2, 2)), nil},
		{"it holds it itself", table(held(s(5, 2, 2)), x(5, 2, 2)), nil},
		{"another slot is held", table(held(x(1, 2, 3)), x(5, 2, 2)), nil},
		{"another page is held", table(held(x(1, 3, 2)), x(5, 2, 2)), nil},
		{"page and slot swapped", table(held(x(1, 2, 3)), x(5, 3, 2)), nil},
		{"behind one for another slot", table(nil, x(1, 2, 1), x(5, 2, 2)), nil},
		{"behind one for another page", table(nil, x(1, 1, 2), x(5, 2, 2)), nil},
		{"one that holds, and upgrades before it", table(held(s(1, 2, 2), s(2, 2, 2)), x(1, 2, 2), x(5, 2, 2)), txs(1, 2)},
		{"shared, behind one that holds it shared, and upgrades", table(held(s(1, 2, 2), s(2, 2, 2)), x(1, 2, 2), s(5, 2, 2)), txs(1)},
		{"one that holds, and upgrades behind it", table(held(s(1, 2, 2)), x(5, 2, 2), x(1, 2, 2)), txs(1)},
		{"shared, before one that holds it shared, and upgrades", table(held(s(1, 2, 2)), s(5, 2, 2), x(1, 2, 2)), nil},
		{"one that holds, and waits for another lock", table(held(s(1, 2, 2), x(2, 3, 3)), x(1, 3, 3), x(5, 2, 2)), txs(1)},
		{"several, not in order", table(held(s(4, 2, 2), s(8, 2, 2)), x(9, 2, 2), x(1, 2, 2), x(6, 2, 2), x(5, 2, 2)), txs(1, 4, 6, 8, 9)},
		{"some before it, some behind it", table(held(s(4, 2, 2)), x(6, 2, 2), x(5, 2, 2), x(1, 2, 2), x(9, 2, 2)), txs(4, 6)},
	} {
		wantFor(t, c.name, c.l, 5, c.want...)
		checkAll(t, c.l)
	}
}

// P9.1: all pairs, ascending by both.
func TestEdges(t *testing.T) {
	wantEdges(t, "empty", api.Locks{})
	wantEdges(t, "nobody waits", table(held(s(1, 0, 0), s(2, 0, 0), x(1, 0, 1))))
	wantEdges(t, "one pair", table(held(x(1, 0, 0)), s(2, 0, 0)), [2]int{2, 1})
	wantEdges(t, "nobody stands against it", table(held(s(1, 0, 0)), s(2, 0, 0), x(3, 1, 1)))
	l := table(
		held(s(1, 0, 0), s(3, 0, 0), x(20, 0, 1), s(4, 1, 0)),
		x(9, 0, 1), x(3, 0, 0), s(2, 0, 1), x(1, 0, 0), s(20, 1, 0), x(11, 1, 0), x(10, 0, 0),
	)
	wantEdges(t, "several", l,
		[2]int{1, 3}, [2]int{2, 9}, [2]int{2, 20}, [2]int{3, 1}, [2]int{9, 20},
		[2]int{10, 1}, [2]int{10, 3}, [2]int{11, 4}, [2]int{11, 20})
	for _, edges := range [][][2]int{ring(1, 2), row(3, 2, 1), ring(5, 9, 7), join(ring(1, 2, 3), ring(3, 2, 1), row(4, 1))} {
		slices.SortFunc(edges, comparePairs)
		wantEdges(t, "graph", graph(edges, false), edges...)
		wantEdges(t, "graph, backwards", graph(edges, true), edges...)
	}
}

// P9.2: a shortest cycle, and of several the least.
func TestCycle(t *testing.T) {
	for _, c := range []struct {
		name  string
		edges [][2]int
		tx    int
		want  []int
	}{
		{"two", ring(1, 2), 1, txs(1, 2)},
		{"two, from the other one", ring(1, 2), 2, txs(2, 1)},
		{"three", ring(1, 2, 3), 1, txs(1, 2, 3)},
		{"three, from the second one", ring(1, 2, 3), 2, txs(2, 3, 1)},
		{"three, from the last one", ring(1, 2, 3), 3, txs(3, 1, 2)},
		{"the other way round", ring(3, 2, 1), 1, txs(1, 3, 2)},
		{"five", ring(4, 9, 2, 7, 5), 7, txs(7, 5, 4, 9, 2)},
		{"great numbers", ring(maxTx, 1, maxTx-1), 1, txs(1, maxTx-1, maxTx)},
		{"into a ring", join(row(4, 1), ring(1, 2, 3)), 4, nil},
		{"into a ring, from in it", join(row(4, 1), ring(1, 2, 3)), 1, txs(1, 2, 3)},
		{"into a ring, over another one", join(row(5, 4, 1), ring(1, 2)), 5, nil},
		{"out of a ring", join(row(1, 4, 5), ring(1, 2)), 1, txs(1, 2)},
		{"out of a ring, from out of it", join(row(1, 4, 5), ring(1, 2)), 4, nil},
		{"from a ring to a ring", join(ring(1, 2), row(2, 3), ring(3, 4)), 2, txs(2, 1)},
		{"from a ring to a ring, from the second one", join(ring(1, 2), row(2, 3), ring(3, 4)), 3, txs(3, 4)},
		{"in two rings", join(ring(1, 5), ring(1, 3)), 1, txs(1, 3)},
		{"in two rings, from one", join(ring(1, 5), ring(1, 3)), 5, txs(5, 1)},
		{"two shortest ones, the first step", join(ring(1, 2, 9), ring(1, 3, 4)), 1, txs(1, 2, 9)},
		{"two shortest ones, the last step", join(ring(1, 2, 9), ring(1, 2, 4)), 1, txs(1, 2, 4)},
		{"two shortest ones, the step between", join(ring(1, 5, 4, 2), ring(1, 5, 3, 9)), 1, txs(1, 5, 3, 9)},
		{"several, crosswise", join(ring(1, 3, 5, 7), row(1, 2, 6, 8, 1), row(3, 6), row(2, 5, 8)), 1, txs(1, 2, 5, 7)},
		{"the least first step comes to the others", join(row(1, 2, 4, 5, 1), row(1, 3, 4)), 1, txs(1, 2, 4, 5)},
		{"the least first step leads to a longer one", join(ring(1, 2, 4, 5), ring(1, 3, 6)), 1, txs(1, 3, 6)},
		{"the least first step leads nowhere", join(row(1, 2, 4), ring(1, 3)), 1, txs(1, 3)},
		{"the least first step leads into another ring", join(row(1, 2), ring(2, 4), ring(1, 3)), 1, txs(1, 3)},
		{"a longer one with lesser numbers", join(ring(9, 1, 2, 3), ring(9, 20)), 9, txs(9, 20)},
		{"the shorter one branches off later", join(ring(9, 1, 2, 3), row(1, 8, 9)), 9, txs(9, 1, 8)},
		{"back from the first step and from a lesser one behind it", join(ring(5, 6), row(6, 1, 5)), 5, txs(5, 6)},
		{"a row", row(1, 2, 3, 4), 1, nil},
		{"a row, from its middle", row(1, 2, 3, 4), 3, nil},
		{"a row, from its end", row(1, 2, 3, 4), 4, nil},
		{"two rows that meet", join(row(1, 2, 4), row(1, 3, 4)), 1, nil},
		{"two rows that meet, downwards", join(row(4, 2, 1), row(4, 3, 1)), 4, nil},
	} {
		for _, backwards := range []bool{false, true} {
			l := graph(c.edges, backwards)
			wantCycle(t, c.name, l, c.tx, c.want...)
			checkAll(t, l)
		}
	}
}

// P9.2: no cycle without an edge; numbers that no transaction has.
func TestNoCycle(t *testing.T) {
	l := table(held(s(1, 0, 0), s(2, 0, 0), x(3, 0, 1), x(4, 0, 2)), x(1, 0, 0), x(2, 0, 0), s(3, 0, 2))
	wantCycle(t, "two upgrades", l, 1, 1, 2)
	wantCycle(t, "it waits, and nobody for it", l, 3)
	wantCycle(t, "it only holds", l, 4)
	for _, tx := range txs(5, 0, -1, -2, maxTx, maxTx+1, math.MinInt, math.MaxInt) {
		wantCycle(t, "it is not there", l, tx)
		wantCycle(t, "empty", api.Locks{}, tx)
	}
	wantCycle(t, "it waits for itself only", table(held(s(1, 0, 0)), x(1, 0, 0)), 1)
	wantCycle(t, "empty", api.Locks{}, 1)
}

// P9.2: rings in which what waits before counts, not only what is held.
func TestCycleOfQueues(t *testing.T) {
	l := table(held(s(1, 0, 0), x(3, 1, 0)), x(2, 0, 0), s(3, 0, 0), x(1, 1, 0))
	wantCycle(t, "1 for 3, which holds; 3 for 2, which waits; 2 for 1, which holds", l, 1, 1, 3, 2)
	wantCycle(t, "from 2", l, 2, 2, 1, 3)
	wantCycle(t, "from 3", l, 3, 3, 2, 1)
	l.Waiting = []api.Grant{s(3, 0, 0), x(2, 0, 0), x(1, 1, 0)}
	for tx := 1; tx <= 3; tx++ {
		wantCycle(t, "3 stands before 2", l, tx)
	}
	l = table(held(s(1, 0, 0), s(2, 0, 0), s(3, 0, 0)), x(3, 0, 0), x(2, 0, 0), x(1, 0, 0))
	wantCycle(t, "three upgrades", l, 3, 3, 1)
	wantCycle(t, "three upgrades", l, 2, 2, 1)
	wantCycle(t, "three upgrades", l, 1, 1, 2)
}

// P9.1, P9.2: a valid table in which something that waits could be held.
func TestNotSettled(t *testing.T) {
	l := table(held(s(5, 0, 0)), s(1, 0, 0), x(2, 1, 1), x(3, 0, 0), s(4, 1, 1))
	wantFor(t, "it could be held", l, 1)
	wantFor(t, "it could be held", l, 2)
	wantFor(t, "behind one that could be held", l, 3, 1, 5)
	wantFor(t, "behind one that could be held", l, 4, 2)
	wantEdges(t, "not settled", l, [2]int{3, 1}, [2]int{3, 5}, [2]int{4, 2})
	up := table(held(s(1, 0, 0), x(2, 5, 5)), x(1, 0, 0), x(2, 0, 0), s(3, 5, 5))
	wantEdges(t, "an upgrade could be held", up, [2]int{2, 1}, [2]int{3, 2})
	cyc := table(held(s(1, 0, 0), x(2, 1, 0)), s(3, 7, 7), x(1, 1, 0), x(2, 0, 0))
	wantCycle(t, "a ring beside it", cyc, 1, 1, 2)
	wantCycle(t, "a ring beside it", cyc, 3)
	wantWould(t, "waited for already, though it could be held", cyc, s(3, 7, 7), nil, api.OK)
	wantWould(t, "one that could be held is, then", l, x(6, 1, 1), nil, api.OK)
	for _, l := range []api.Locks{l, up, cyc} {
		checkAll(t, l)
	}
}

// P9.3: the cycle through the transaction that requests.
func TestWould(t *testing.T) {
	l := table(held(s(1, 0, 0), s(2, 0, 0), x(2, 0, 1), s(3, 0, 2), s(4, 0, 2), x(5, 2, 0)), x(3, 0, 1), s(6, 2, 0), x(7, 0, 0))
	for _, c := range []struct {
		name string
		g    api.Grant
		want []int
	}{
		{"held already", s(1, 0, 0), nil},
		{"held in a stronger mode", s(2, 0, 1), nil},
		{"waited for already", x(3, 0, 1), nil},
		{"held at once", x(1, 9, 9), nil},
		{"shared with others at once", s(1, 0, 2), nil},
		{"by a new one, at once", s(9, 0, 2), nil},
		{"waits for one that only holds", x(1, 0, 1), nil},
		{"waits for one that waits, but not for it", s(5, 0, 0), nil},
		{"closes a cycle of two", x(2, 0, 2), txs(2, 3)},
		{"waits for one that waits, and has what a third one waits for", s(4, 0, 0), nil},
		{"an upgrade goes before the one that waits for it", x(1, 0, 0), nil},
		{"shared, behind a shared one that waits", s(2, 2, 0), nil},
	} {
		wantWould(t, c.name, l, c.g, c.want, api.OK)
		checkWould(t, l, c.g)
	}
	chain := graph(row(2, 3, 4, 5), false)
	own := api.Lock{Page: 9, Slot: 9}
	chain.Held = append(chain.Held, x(2, 9, 9))
	wantWould(t, "closes a cycle of four", chain, api.Grant{Tx: 5, Lock: own, Mode: 1}, txs(5, 2, 3, 4), api.OK)
	chain.Held[len(chain.Held)-1] = s(2, 9, 9)
	wantWould(t, "held at once, where it would close one", chain, api.Grant{Tx: 5, Lock: own, Mode: 1}, nil, api.OK)
	wantWould(t, "and in the other mode", chain, api.Grant{Tx: 5, Lock: own, Mode: 2}, txs(5, 2, 3, 4), api.OK)
	two := graph(ring(1, 2), false)
	wantWould(t, "waited for already, in a cycle", two, two.Waiting[0], txs(1, 2), api.OK)
	wantWould(t, "waited for already, in a cycle", two, two.Waiting[1], txs(2, 1), api.OK)
	wantWould(t, "waits for a cycle", two, x(3, 0, 0), nil, api.OK)
	wantWould(t, "held beside a cycle", two, x(3, 3, 3), nil, api.OK)
	wantWould(t, "an upgrade, over one that waits for the one behind it", table(held(s(1, 0, 0), s(2, 0, 0), x(3, 1, 0)), x(3, 0, 0), s(2, 1, 0)), x(1, 0, 0), txs(1, 2, 3), api.OK)
	wantWould(t, "over one that waits before it, and does not hold it", table(held(s(3, 0, 0), x(2, 1, 0)), x(1, 0, 0), s(3, 1, 0)), s(2, 0, 0), txs(2, 1, 3), api.OK)
	wantWould(t, "empty", api.Locks{}, x(maxTx, 63, 15), nil, api.OK)
}

// P9.3: the errors of locks.Request.
func TestWouldErrors(t *testing.T) {
	l := table(held(s(1, 0, 0), s(2, 0, 0)), x(1, 0, 0), x(3, 0, 0))
	for _, g := range []api.Grant{s(0, 0, 0), s(-1, 0, 0), s(maxTx+1, 0, 0), s(4, -1, 0), s(4, maxPages, 0), s(4, 0, -1), s(4, 0, slots), grant(4, 0, 0, 0), grant(4, 0, 0, 3), {}} {
		refused(t, "the grant is not valid", api.Locks{}, g, api.ErrRange)
		refused(t, "the grant is not valid", l, g, api.ErrRange)
	}
	refused(t, "it waits for another lock", l, s(3, 0, 1), api.ErrState)
	refused(t, "it waits in another mode", l, s(3, 0, 0), api.ErrState)
	refused(t, "it waits for another mode than it holds", l, s(1, 0, 0), api.ErrState)
	refused(t, "no room", table(full(maxLocks)), s(2, 0, 0), api.ErrLimit)
	refused(t, "no room for an upgrade", table(full(maxLocks)), x(1, 0, 0), api.ErrLimit)
	most := full(maxLocks - 1)
	wantWould(t, "room for one", table(most), x(2, 0, 0), nil, api.OK)
	wantWould(t, "no room, but held", table(full(maxLocks)), s(1, 0, 0), nil, api.OK)
	queued := table(most, x(2, 0, 0))
	wantWould(t, "no room, but waited for", queued, x(2, 0, 0), nil, api.OK)

	bad := table(held(s(1, 0, 0), s(1, 0, 0)), x(2, 0, 0))
	badFull := table(full(maxLocks))
	badFull.Held[0], badFull.Held[1] = badFull.Held[1], badFull.Held[0]
	refused(t, "table and grant", bad, s(0, 0, 0), api.ErrLock)
	refused(t, "table, and it waits", bad, s(2, 0, 1), api.ErrLock)
	refused(t, "table and room", badFull, s(2, 0, 0), api.ErrLock)
	refused(t, "grant, and it waits", l, grant(3, 0, 0, 3), api.ErrRange)
	refused(t, "grant and room", table(full(maxLocks)), s(2, 0, slots), api.ErrRange)
	refused(t, "it waits, and no room", queued, x(2, 0, 1), api.ErrState)
	refused(t, "grant, it waits, and no room", queued, x(2, 0, -1), api.ErrRange)
	refused(t, "all of them", table(badFull.Held, x(2, 0, 0)), s(2, 0, -1), api.ErrLock)
}

// wrong are tables that are not valid, each for a reason of its own; but for that 1 and 2 would have a cycle.
func wrong() map[string]api.Locks {
	h, w := held(s(1, 0, 0), s(2, 0, 0)), held(x(1, 0, 0), x(2, 0, 0))
	return map[string]api.Locks{
		"grant held":    table(append(h, s(1, 64, 0)), w...),
		"grant waiting": table(h, append(w, grant(3, 0, 0, 3))...),
		"no number":     table(h, append(w, s(0, 0, 0))...),
		"order":         table(append(h, s(1, 2, 0), s(1, 1, 0)), w...),
		"twice":         table(append(h, s(2, 0, 0)), w...),
		"conflict":      table(append(h, x(3, 0, 0)), w...),
		"waits twice":   table(h, append(w, s(3, 0, 0), s(3, 0, 1))...),
		"holds it":      table(append(h, x(3, 0, 1)), append(w, s(3, 0, 1))...),
		"too many":      table(slices.Insert(full(maxLocks-2), 1, s(2, 0, 0)), w...),
	}
}

// All functions: nothing for a table that is not valid.
func TestNotValid(t *testing.T) {
	for name, l := range wrong() {
		if locks.Valid(l) {
			t.Fatalf("%s: the table is valid", name)
		}
		wantEdges(t, name, l)
		for tx := -1; tx <= 4; tx++ {
			wantFor(t, name, l, tx)
			wantCycle(t, name, l, tx)
			refused(t, name, l, x(tx, 0, 0), api.ErrLock)
			refused(t, name, l, s(tx, 5, 5), api.ErrLock)
		}
	}
	near := slices.Insert(full(maxLocks-3), 1, s(2, 0, 0))
	l := table(near, x(1, 0, 0), x(2, 0, 0))
	wantEdges(t, "just not too many", l, [2]int{1, 2}, [2]int{2, 1})
	wantCycle(t, "just not too many", l, 2, 2, 1)
}

// P9.1, P9.2: all graphs of four transactions, with numbers in several orders.
func TestAllSmallGraphs(t *testing.T) {
	for _, of := range [][4]int{{1, 2, 3, 4}, {3, 40, 1, 2}} {
		var pairs [][2]int
		for _, a := range of {
			for _, b := range of {
				if a != b {
					pairs = append(pairs, [2]int{a, b})
				}
			}
		}
		for set := range 1 << len(pairs) {
			var edges [][2]int
			for i, p := range pairs {
				if set>>i&1 == 1 {
					edges = append(edges, p)
				}
			}
			slices.SortFunc(edges, comparePairs)
			l := graph(edges, set%3 == 0)
			wantEdges(t, "all graphs", l, edges...)
			for _, tx := range of {
				wantFor(t, "all graphs", l, tx, forOf(edges, tx)...)
				wantCycle(t, "all graphs", l, tx, cycleOf(edges, tx)...)
			}
		}
	}
}

// P9.1, P9.2: random graphs of up to eight transactions.
func TestRandomGraphs(t *testing.T) {
	r := rand.New(rand.NewSource(9))
	lengths := map[int]int{}
	for range 4000 {
		n := 2 + r.Intn(7)
		numbers := r.Perm(n + 3)[:n]
		var edges [][2]int
		for range r.Intn(2 * n) {
			a, b := numbers[r.Intn(n)]+1, numbers[r.Intn(n)]+1
			if a != b {
				edges = append(edges, [2]int{a, b})
			}
		}
		edges = join(edges)
		l := graph(edges, r.Intn(2) == 0)
		wantEdges(t, "random graph", l, edges...)
		for _, i := range numbers {
			want := cycleOf(edges, i+1)
			wantCycle(t, "random graph", l, i+1, want...)
			lengths[len(want)]++
		}
	}
	for n := 2; n <= 5; n++ {
		if lengths[n] < 10 {
			t.Errorf("only %d cycles of %d", lengths[n], n)
		}
	}
}

// someTable is a table of a few transactions and cells; mostly a valid one, whose grants need not be settled.
func someTable(r *rand.Rand) api.Locks {
	l := api.Locks{}
	for range r.Intn(16) {
		g := grant(1+r.Intn(6), r.Intn(2), r.Intn(2), 1+r.Intn(2))
		next := table(slices.Clone(l.Held), slices.Clone(l.Waiting)...)
		if r.Intn(2) > 0 {
			next.Held = append(next.Held, g)
			slices.SortFunc(next.Held, compare)
		} else {
			next.Waiting = append(next.Waiting, g)
		}
		if locks.Valid(next) || r.Intn(60) == 0 {
			l = next
		}
	}
	return l
}

// P9.1 to P9.3: random tables, valid or not, settled or not.
func TestRandomTables(t *testing.T) {
	r := rand.New(rand.NewSource(99))
	right, rings := 0, 0
	for range 6000 {
		l := someTable(r)
		if locks.Valid(l) {
			right++
		}
		if cyclic(edgesOf(l)) {
			rings++
		}
		checkAll(t, l)
		checkWould(t, l, grant(r.Intn(8), r.Intn(3)-r.Intn(2), r.Intn(2), r.Intn(4)))
	}
	if right < 4500 || right > 5900 || rings < 150 {
		t.Errorf("%d of the tables are valid, %d have a cycle", right, rings)
	}
}

// step is what one transaction does, at random: the table after it, and whether that was a request.
func step(r *rand.Rand, l api.Locks, g api.Grant) (api.Locks, bool) {
	switch r.Intn(12) {
	case 0:
		return locks.Cancel(l, g.Tx), false
	case 1:
		return locks.Drop(l, g.Tx, g.Lock), false
	case 2:
		return locks.Release(l, g.Tx), false
	}
	next, _, e := locks.Request(l, g)
	if e != api.OK {
		return l, false
	}
	return next, true
}

// checkNoCycle checks that nobody is in a cycle, and that each one who waits waits, after some steps over the first or the last one it waits for, for one who does not wait.
func checkNoCycle(t *testing.T, l api.Locks) {
	t.Helper()
	if cyclic(waits.Edges(l)) {
		t.Fatalf("there is a cycle: %s", show(l))
	}
	for _, w := range l.Waiting {
		if c := waits.Cycle(l, w.Tx); len(c) > 0 {
			t.Fatalf("there is the cycle %v: %s", c, show(l))
		}
		first, last := w.Tx, w.Tx
		for range l.Waiting {
			if others := waits.For(l, first); len(others) > 0 {
				first = others[0]
			}
			if others := waits.For(l, last); len(others) > 0 {
				last = others[len(others)-1]
			}
		}
		for _, tx := range txs(first, last) {
			if g, waiting := locks.Waiting(l, tx); waiting || tx == w.Tx {
				t.Fatalf("%v leads to %d, which waits for %v: %s", w, tx, g, show(l))
			}
		}
	}
}

// Consequences: a cycle goes through the one that requested, and there is none when that one cancels its request.
func TestConsequences(t *testing.T) {
	r := rand.New(rand.NewSource(999))
	cycles, waiting := 0, 0
	for range 300 {
		l := api.Locks{}
		for range 60 {
			g := grant(1+r.Intn(7), r.Intn(2), r.Intn(3), 1+r.Intn(2))
			checkWould(t, l, g)
			next, requested := step(r, l, g)
			edges := waits.Edges(next)
			c := waits.Cycle(next, g.Tx)
			others := slices.DeleteFunc(slices.Clone(edges), func(e [2]int) bool { return e[0] == g.Tx || e[1] == g.Tx })
			if cyclic(edges) != (len(c) > 0) || cyclic(others) || len(c) > 0 && !requested {
				t.Fatalf("%v: the cycle %v in %v: before %s, after %s", g, c, edges, show(l), show(next))
			}
			if len(c) > 0 {
				cycles++
				next = locks.Cancel(next, g.Tx)
			}
			checkNoCycle(t, next)
			l = next
			waiting += len(l.Waiting)
		}
	}
	if cycles < 300 || waiting < 10000 {
		t.Errorf("only %d cycles, and %d have waited", cycles, waiting)
	}
}

// R1: the largest tables.
func TestLarge(t *testing.T) {
	all := table(held(x(1, 0, 0)))
	var before []int
	var edges [][2]int
	for tx := 2; tx <= maxLocks; tx++ {
		all.Waiting = append(all.Waiting, x(tx, 0, 0))
		before = append(before, tx-1)
		for other := 1; other < tx; other++ {
			edges = append(edges, [2]int{tx, other})
		}
	}
	wantFor(t, "each behind all before", all, maxLocks, before...)
	wantEdges(t, "each behind all before", all, edges...)
	wantCycle(t, "each behind all before", all, maxLocks)

	var list []int
	for tx := range maxLocks / 2 {
		list = append(list, tx*7919%(maxLocks/2)+1)
	}
	long := graph(ring(list...), false)
	wantCycle(t, "a ring of all", long, list[0], list...)
	wantCycle(t, "a ring of all, from its last one", long, list[len(list)-1], append(list[len(list)-1:], list[:len(list)-1]...)...)
	wantCycle(t, "a row of all", graph(row(list...), true), list[0])
}

// Example 1, of the chapter; example 4 of the document.
func TestExample(t *testing.T) {
	l := api.Locks{}
	for _, g := range held(s(1, 4, 2), s(2, 4, 2)) {
		wantWould(t, "shared", l, g, nil, api.OK)
		l, _, _ = locks.Request(l, g)
	}
	wantWould(t, "1 upgrades", l, x(1, 4, 2), nil, api.OK)
	wantWould(t, "2 upgrades first", l, x(2, 4, 2), nil, api.OK)
	l, _, _ = locks.Request(l, x(1, 4, 2))
	wantFor(t, "1 waits", l, 1, 2)
	wantFor(t, "2 does not yet", l, 2)
	wantWould(t, "2 upgrades", l, x(2, 4, 2), txs(2, 1), api.OK)
	l, _, _ = locks.Request(l, x(2, 4, 2))
	wantFor(t, "2 waits, too", l, 2, 1)
	wantEdges(t, "both wait", l, [2]int{1, 2}, [2]int{2, 1})
	wantCycle(t, "from 1", l, 1, 1, 2)
	wantCycle(t, "from 2", l, 2, 2, 1)
	wantWould(t, "again", l, x(2, 4, 2), txs(2, 1), api.OK)
	wantCycle(t, "2 cancels", locks.Cancel(l, 2), 1)
}
