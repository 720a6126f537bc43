package sched

import (
	"fmt"
	"math"
	"math/rand"
	"slices"
	"sync"
	"testing"

	"ostinato/api"
)

// The limits and numbers of the document, written out.
const (
	mostNodes   = 8
	mostMasters = 4
	tickCount   = 4 // of a bit time
	longest     = 140

	exclusive, arbitrating, free  = 1, 2, 3
	send, arb, get, ref, watching = 1, 2, 3, 4, 5
)

// far: numbers of which sums and differences have no room in an int, and ones that would be near if but their low bits were looked at.
var far = []int{math.MinInt, math.MinInt + 1, -1 << 40, -1 << 32, -1<<32 + 40, -65536, -256, 1 << 32, 1<<32 + 3, 1<<32 + 40, 1 << 40, math.MaxInt - 1, math.MaxInt}

const behindAll = 260 // a unit of busy behind all that is ever due

// busy: a matrix of which node 0 has much to do. Its Step is 12: 9 units and 1 of a frame, 2 of Enable.
func busy() api.Matrix {
	return api.Matrix{
		Level: 1, Nodes: 4, Cycles: 4, Length: 200, Enable: 2, Unit: 64, Init: 10, Ref: 80,
		Masters:  []int{2, 0},
		Messages: []api.Message{{ID: 300, Owner: 0}, {ID: 41, Owner: 1}, {ID: 40, Owner: 0, Event: true}, {ID: 42, Owner: 0}},
		Windows: []api.Window{
			{Kind: exclusive, Start: 20, End: 40, Repeat: 1},
			{Kind: arbitrating, Start: 40, End: 60, Repeat: 1},
			{Kind: exclusive, Start: 60, End: 80, Cycle: 1, Repeat: 2, Msg: 3},
			{Kind: arbitrating, Start: 60, End: 75, Repeat: 2},
			{Kind: exclusive, Start: 80, End: 100, Repeat: 1, Msg: 1},
			{Kind: free, Start: 120, End: 130, Repeat: 1},
			{Kind: exclusive, Start: 140, End: 152, Cycle: 2, Repeat: 4},
		},
	}
}

// The triggers of busy.
var (
	send20  = api.Trigger{Kind: send, At: 20, Repeat: 1, Until: 22}
	get39   = api.Trigger{Kind: get, At: 39, Repeat: 1}
	arb40   = api.Trigger{Kind: arb, At: 40, Repeat: 1, Until: 48}
	send60  = api.Trigger{Kind: send, At: 60, Cycle: 1, Repeat: 2, Msg: 3, Until: 62}
	arb60   = api.Trigger{Kind: arb, At: 60, Repeat: 2, Until: 63}
	get79   = api.Trigger{Kind: get, At: 79, Cycle: 1, Repeat: 2, Msg: 3}
	send80  = api.Trigger{Kind: send, At: 80, Repeat: 1, Msg: 1, Until: 82}
	get99   = api.Trigger{Kind: get, At: 99, Repeat: 1, Msg: 1}
	send140 = api.Trigger{Kind: send, At: 140, Cycle: 2, Repeat: 4, Until: 142}
	get151  = api.Trigger{Kind: get, At: 151, Cycle: 2, Repeat: 4}
	ends    = api.Trigger{Kind: ref, At: 200, Repeat: 1}
	first   = api.Trigger{Kind: ref, At: 212, Repeat: 1, Msg: 1}
	second  = api.Trigger{Kind: ref, At: 224, Repeat: 1, Msg: 1}
	missed  = api.Trigger{Kind: watching, At: 248, Repeat: 1}

	nothing = api.Trigger{}
)

// cycles: what is due to the nodes of busy in each of its cycles; to all that aren't among the first three what is to node 3.
func cycles(who int) [4][]api.Trigger {
	switch who {
	case 0:
		return [4][]api.Trigger{
			{send20, arb40, arb60, get99, ends, second, missed},
			{send20, arb40, send60, get99, ends, second, missed},
			{send20, arb40, arb60, get99, send140, ends, second, missed},
			{send20, arb40, send60, get99, ends, second, missed},
		}
	case 1:
		return [4][]api.Trigger{
			{get39, arb40, arb60, send80, missed},
			{get39, arb40, get79, send80, missed},
			{get39, arb40, arb60, send80, get151, missed},
			{get39, arb40, get79, send80, missed},
		}
	case 2:
		return [4][]api.Trigger{
			{get39, arb40, arb60, get99, ends, first, missed},
			{get39, arb40, get79, get99, ends, first, missed},
			{get39, arb40, arb60, get99, get151, ends, first, missed},
			{get39, arb40, get79, get99, ends, first, missed},
		}
	}
	return [4][]api.Trigger{
		{get39, arb40, arb60, get99, missed},
		{get39, arb40, get79, get99, missed},
		{get39, arb40, arb60, get99, get151, missed},
		{get39, arb40, get79, get99, missed},
	}
}

// nodes: all that there are, and numbers of none.
func nodes() []int {
	return append([]int{-2, -1, 0, 1, 2, 3, 4, 5, 6, 7, mostNodes, mostNodes + 1, 99, 100}, far...)
}

// opens is what is open behind a row of triggers that are due, if nothing was before.
func opens(row []api.Trigger) api.Trigger {
	var out api.Trigger
	for _, one := range row {
		if one.Kind == send || one.Kind == arb {
			out = one
		}
	}
	return out
}

// opened is a Sched of a node of busy, in that cycle, at that unit.
func opened(who, cycle, at int) *Sched {
	s := New(busy(), who)
	s.Begin(cycle)
	s.Now(at)
	return s
}

// openIs holds a Sched to what is open (nothing: of no kind) and to what of that is over, asked twice: to be asked changes nothing.
func openIs(t *testing.T, what string, s *Sched, want api.Trigger) {
	t.Helper()
	isOpen := want.Kind != 0
	for _, turn := range []string{"", ", asked again"} {
		if got, ok := s.Open(); got != want || ok != isOpen {
			t.Fatalf("P23.2: %s%s: Open: %v, %t, want %v", what, turn, got, ok, want)
		}
		for _, at := range append([]int{-1, 0, 1, want.At, want.Until - 1, want.Until, want.Until + 1, 5000}, far...) {
			if got := s.Over(at); got != (isOpen && at > want.Until) {
				t.Fatalf("P23.2: %s%s: %v is open: Over(%d): %t", what, turn, want, at, got)
			}
		}
	}
}

// nowIs holds Now to what is due, and to what is open then.
func nowIs(t *testing.T, what string, s *Sched, at int, want []api.Trigger, open api.Trigger) {
	t.Helper()
	if got := s.Now(at); !slices.Equal(got, want) {
		t.Fatalf("P23.1: %s: Now(%d): %v, want %v", what, at, got, want)
	}
	openIs(t, fmt.Sprintf("%s, behind Now(%d)", what, at), s, open)
}

func TestLimits(t *testing.T) {
	if api.MaxNodes != mostNodes || api.MaxMasters != mostMasters || api.Nominal != tickCount || api.FrameBits != longest {
		t.Fatal("P23.1: other limits than the tests have")
	}
	if api.WExclusive != exclusive || api.WArbitrating != arbitrating || api.WFree != free {
		t.Fatal("P23.1: other kinds of windows than the tests have")
	}
	if api.TSend != send || api.TArb != arb || api.TGet != get || api.TRef != ref || api.TWatch != watching {
		t.Fatal("P23.1: other kinds of triggers than the tests have")
	}
}

// The chapter's example.
func TestExample(t *testing.T) {
	for _, who := range nodes() {
		s := New(busy(), who)
		s.Begin(0)
		all := cycles(who)[0]
		nowIs(t, fmt.Sprint("the example, node ", who), s, 5000, all, opens(all))
	}
}

// Ahead of any Begin it is cycle 0.
func TestNew(t *testing.T) {
	for _, who := range nodes() {
		what := fmt.Sprint("ahead of any Begin, node ", who)
		all := cycles(who)[0]
		openIs(t, what, New(busy(), who), nothing)
		nowIs(t, what+", in one leap", New(busy(), who), 5000, all, opens(all))
		nowIs(t, what+", as far as there are units", New(busy(), who), math.MaxInt, all, opens(all))
		s := New(busy(), who)
		for _, at := range []int{-1, -2, math.MinInt, -1, 0, 0, -1, 0, 1, 19} {
			nowIs(t, what, s, at, nil, nothing)
		}
		nowIs(t, what+", then", s, behindAll, all, opens(all))
		nowIs(t, what+", then no more", s, 5000, nil, opens(all))
	}
}

// A row of all calls of node 0, written out.
func TestRow(t *testing.T) {
	const (
		begin = iota
		now
		closes
	)
	s := New(busy(), 0)
	for i, x := range []struct {
		call, n int
		due     []api.Trigger
		open    api.Trigger
	}{
		{now, 19, nil, nothing}, {now, 20, []api.Trigger{send20}, send20}, {now, 20, nil, send20}, {now, 21, nil, send20}, {now, 39, nil, send20},
		{now, 40, []api.Trigger{arb40}, arb40}, {closes, 0, nil, nothing}, {now, 40, nil, nothing}, {now, 59, nil, nothing}, {closes, 0, nil, nothing},
		{now, 100, []api.Trigger{arb60, get99}, arb60}, {now, 60, nil, arb60}, {now, 199, nil, arb60}, {now, 247, []api.Trigger{ends, second}, arb60},
		{closes, 0, nil, nothing}, {now, 5000, []api.Trigger{missed}, nothing},
		{begin, 1, nil, nothing}, {now, 62, []api.Trigger{send20, arb40, send60}, send60}, {closes, 0, nil, nothing}, {now, 99, []api.Trigger{get99}, nothing},
		{begin, 2, nil, nothing}, {now, 45, []api.Trigger{send20, arb40}, arb40}, {now, 139, []api.Trigger{arb60, get99}, arb60}, {now, 140, []api.Trigger{send140}, send140}, {now, 224, []api.Trigger{ends, second}, send140},
		{begin, 3, nil, nothing}, {now, 0, nil, nothing}, {now, 20, []api.Trigger{send20}, send20},
		{begin, 3, nil, nothing}, {now, 20, []api.Trigger{send20}, send20},
		{begin, -1, nil, nothing}, {now, 5000, nil, nothing},
		{begin, 0, nil, nothing}, {now, 61, []api.Trigger{send20, arb40, arb60}, arb60},
	} {
		what := fmt.Sprint("row ", i)
		switch x.call {
		case begin:
			s.Begin(x.n)
			openIs(t, what+", begun", s, x.open)
		case now:
			nowIs(t, what, s, x.n, x.due, x.open)
		case closes:
			s.Close()
			openIs(t, what+", closed", s, x.open)
		}
	}
}

// Cycles of any number: below 0 none comes, above the matrix's cycles they go round.
func TestBegin(t *testing.T) {
	for _, who := range nodes() {
		all := cycles(who)
		for _, x := range []struct{ cycle, as int }{
			{0, 0}, {1, 1}, {2, 2}, {3, 3}, {4, 0}, {5, 1}, {6, 2}, {7, 3}, {8, 0}, {9, 1}, {99, 3}, {100, 0}, {255, 3}, {256, 0}, {65535, 3}, {65538, 2},
			{math.MaxInt32, 3}, {1 << 32, 0}, {1<<32 + 1, 1}, {1<<32 + 2, 2}, {math.MaxInt - 1, 2}, {math.MaxInt, 3},
		} {
			what := fmt.Sprintf("node %d, cycle %d", who, x.cycle)
			nowIs(t, what, opened(who, x.cycle, 0), 5000, all[x.as], opens(all[x.as]))
			s := opened(who, 1, 50)
			s.Begin(x.cycle)
			nowIs(t, what+", behind another one", s, math.MaxInt, all[x.as], opens(all[x.as]))
		}
		for _, cycle := range []int{-1, -2, -3, -4, -7, -8, -256, -65536, -1 << 32, math.MinInt + 1, math.MinInt} {
			what := fmt.Sprintf("node %d, cycle %d", who, cycle)
			s := opened(who, cycle, 0)
			nowIs(t, what, s, 20, nil, nothing)
			nowIs(t, what, s, math.MaxInt, nil, nothing)
			s.Begin(0)
			nowIs(t, what+", then 0", s, 5000, all[0], opens(all[0]))
		}
	}
}

// A cycle begun is at unit 0: what isn't above that is none, and changes nothing.
func TestUnitZero(t *testing.T) {
	for _, who := range nodes() {
		for cycle, all := range cycles(who) {
			for _, at := range []int{0, -1, -2, -20, math.MinInt} {
				what := fmt.Sprintf("node %d, cycle %d", who, cycle)
				s := New(busy(), who)
				s.Now(5000)
				s.Begin(cycle)
				nowIs(t, what, s, at, nil, nothing)
				nowIs(t, what, s, at, nil, nothing)
				nowIs(t, what, s, 0, nil, nothing)
				nowIs(t, what, s, behindAll, all, opens(all))
			}
		}
	}
}

// between is those of a row above one unit, at most at another one.
func between(row []api.Trigger, from, to int) []api.Trigger {
	var out []api.Trigger
	for _, one := range row {
		if from < one.At && one.At <= to {
			out = append(out, one)
		}
	}
	return out
}

// From each unit to each other one, also below it and the very same one, and then all that is left.
func TestLeaps(t *testing.T) {
	for who := range 4 {
		for cycle, all := range cycles(who) {
			base := New(busy(), who)
			base.Begin(cycle)
			for from := range behindAll {
				ahead := between(all, 0, from)
				base.Now(from)
				for to := range behindAll {
					s := base.Copy()
					farther := max(from, to)
					want := between(all, from, to)
					open := opens(between(all, 0, farther))
					if got := s.Now(to); !slices.Equal(got, want) {
						t.Fatalf("P23.1: node %d, cycle %d, from %d to %d: %v, want %v", who, cycle, from, to, got, want)
					}
					if got, ok := s.Open(); got != open || ok != (open.Kind != 0) {
						t.Fatalf("P23.1: node %d, cycle %d, from %d to %d: %v, %t is open, want %v", who, cycle, from, to, got, ok, open)
					}
					rest := s.Now(5000)
					if got := slices.Concat(ahead, want, rest); !slices.Equal(got, all) {
						t.Fatalf("P23.3: node %d, cycle %d, by %d and %d: %v, want %v", who, cycle, from, to, got, all)
					}
				}
			}
		}
	}
}

// All of a cycle unit by unit: what is due is at that unit, and stays open until another one is due.
func TestUnitByUnit(t *testing.T) {
	for _, who := range nodes() {
		for cycle, all := range cycles(who) {
			s := New(busy(), who)
			s.Begin(cycle)
			open := nothing
			for at := range behindAll {
				want := between(all, at-1, at)
				if more := opens(want); more != nothing {
					open = more
				}
				nowIs(t, fmt.Sprintf("node %d, cycle %d", who, cycle), s, at, want, open)
			}
		}
	}
}

// A unit below, or the very same: none, and neither where it is nor what is open is changed.
func TestBelow(t *testing.T) {
	for _, at := range []int{20, 21, 22, 23, 39, 40, 60, 61, 100, 141, 220, 5000, math.MaxInt} {
		for _, below := range []int{at, at - 1, at - 2, 40, 20, 19, 1, 0, -1, -5000, math.MinInt + 1, math.MinInt} {
			if below > at {
				continue
			}
			what := fmt.Sprintf("from %d down to %d", at, below)
			all := cycles(0)[2]
			s := opened(0, 2, at)
			open := opens(between(all, 0, at))
			nowIs(t, what, s, below, nil, open)
			nowIs(t, what, s, below, nil, open)
			nowIs(t, what+", and back", s, at, nil, open)
			s.Close()
			nowIs(t, what+", closed", s, below, nil, nothing)
			nowIs(t, what+", closed, and back", s, at, nil, nothing)
			rest := between(all, at, 5000)
			nowIs(t, what+", and on", s, max(at, 5000), rest, opens(rest))
		}
	}
}

// Of several due at once the last TSend or TArb is open, whatever stands behind it.
func TestLastIsOpen(t *testing.T) {
	for i, x := range []struct {
		who, cycle, from, to int
		open                 api.Trigger
	}{
		{0, 0, 0, 40, arb40}, {0, 0, 0, 59, arb40}, {0, 0, 0, 60, arb60}, {0, 0, 19, 5000, arb60}, {0, 0, 20, 40, arb40}, {0, 0, 39, 98, arb60},
		{0, 1, 0, 40, arb40}, {0, 1, 0, 60, send60}, {0, 1, 0, 99, send60}, {0, 1, 39, 60, send60}, {0, 1, 0, 5000, send60}, {0, 1, 59, 5000, send60},
		{0, 2, 0, 139, arb60}, {0, 2, 0, 140, send140}, {0, 2, 59, 140, send140}, {0, 2, 0, 5000, send140}, {0, 2, 98, 5000, send140},
		{1, 0, 0, 60, arb60}, {1, 0, 0, 80, send80}, {1, 0, 0, 5000, send80}, {1, 1, 0, 79, arb40}, {1, 1, 0, 5000, send80}, {1, 2, 0, 5000, send80},
		{2, 0, 0, 5000, arb60}, {2, 1, 0, 5000, arb40}, {3, 1, 39, 5000, arb40}, {3, 2, 0, 5000, arb60},
		{0, 0, 60, 5000, nothing}, {0, 2, 140, 5000, nothing}, {1, 0, 80, 5000, nothing}, {3, 1, 40, 5000, nothing}, {3, 0, 0, 39, nothing},
	} {
		what := fmt.Sprintf("row %d, node %d, cycle %d", i, x.who, x.cycle)
		s := opened(x.who, x.cycle, x.from)
		s.Close()
		nowIs(t, what, s, x.to, between(cycles(x.who)[x.cycle], x.from, x.to), x.open)
		nowIs(t, what, s, x.to, nil, x.open)
	}
}

// One is open in the place of another one, whether that is over or not; nothing else comes in its place.
func TestInThePlace(t *testing.T) {
	for _, who := range nodes() {
		for cycle, all := range cycles(who) {
			s := New(busy(), who)
			s.Begin(cycle)
			open := nothing
			for _, one := range all {
				if one.Kind == send || one.Kind == arb {
					open = one
				}
				nowIs(t, fmt.Sprintf("node %d, cycle %d", who, cycle), s, one.At, []api.Trigger{one}, open)
			}
		}
	}
}

// A cycle begun while something is open, over or not: nothing is, and all is due anew.
func TestBeginWhileOpen(t *testing.T) {
	for _, who := range nodes() {
		for cycle, all := range cycles(who) {
			for _, at := range []int{20, 22, 23, 40, 48, 49, 60, 65, 80, 140, 5000} {
				for next, then := range cycles(who) {
					s := opened(who, cycle, at)
					what := fmt.Sprintf("node %d, cycle %d behind %d at %d", who, next, cycle, at)
					openIs(t, what+", ahead", s, opens(between(all, 0, at)))
					s.Begin(next)
					openIs(t, what+", begun", s, nothing)
					nowIs(t, what, s, 0, nil, nothing)
					nowIs(t, what, s, 40, between(then, 0, 40), arb40)
					s.Begin(next)
					openIs(t, what+", begun again", s, nothing)
					nowIs(t, what+", again", s, 5000, then, opens(then))
				}
			}
		}
	}
}

func TestClose(t *testing.T) {
	for _, who := range nodes() {
		s := New(busy(), who)
		what := fmt.Sprint("node ", who)
		for range 2 {
			s.Close()
			openIs(t, what+", closed as nothing was open", s, nothing)
		}
		for cycle, all := range cycles(who) {
			s.Begin(cycle)
			s.Close()
			openIs(t, what+", closed behind Begin", s, nothing)
			at := 0
			for _, one := range all {
				open := opens([]api.Trigger{one})
				nowIs(t, what+", closed ahead of it", s, one.At, []api.Trigger{one}, open)
				for range 2 {
					s.Close()
					openIs(t, what+", closed", s, nothing)
				}
				nowIs(t, what+", closed, and at the same unit", s, one.At, nil, nothing)
				nowIs(t, what+", closed, and at one below", s, at, nil, nothing)
				at = one.At
			}
			nowIs(t, what+", closed, and behind all", s, 5000, nil, nothing)
		}
	}
}

// Each that may be open, at its Until, one below, one above, and far from it; Over hangs on nothing but that.
func TestOver(t *testing.T) {
	for i, x := range []struct{ who, cycle, at, until int }{
		{0, 0, 20, 22}, {0, 0, 40, 48}, {0, 0, 60, 63}, {0, 1, 60, 62}, {0, 2, 140, 142}, {1, 0, 40, 48}, {1, 0, 80, 82}, {1, 1, 80, 82}, {2, 2, 60, 63}, {3, 3, 40, 48},
	} {
		for _, at := range []int{x.at, x.at + 1, x.until, x.until + 1} {
			s := opened(x.who, x.cycle, at)
			for _, y := range []struct {
				at   int
				over bool
			}{
				{x.until, false}, {x.until + 1, true}, {x.until - 1, false}, {x.at, false}, {x.at - 1, false}, {0, false}, {-1, false}, {x.until + 2, true}, {5000, true},
				{math.MinInt, false}, {math.MaxInt, true}, {x.until + 1<<32, true}, {x.until + 1 - 1<<32, false}, {x.until + 256, true}, {x.until + 65536, true}, {x.until + 1 - 65536, false},
			} {
				for range 2 {
					if got := s.Over(y.at); got != y.over {
						t.Errorf("P23.2: row %d at %d: Over(%d): %t, until %d", i, at, y.at, got, x.until)
					}
				}
			}
			s.Close()
			for _, y := range []int{x.until, x.until + 1, 5000, math.MinInt, math.MaxInt} {
				if s.Over(y) {
					t.Errorf("P23.2: row %d, closed: Over(%d)", i, y)
				}
			}
		}
	}
}

// A window that has room and no more: what is open is over as soon as its first unit is.
func TestOverAtOnce(t *testing.T) {
	m := busy()
	m.Windows = []api.Window{{Kind: arbitrating, Start: 50, End: 62, Repeat: 1}}
	s := New(m, 0)
	one := api.Trigger{Kind: arb, At: 50, Repeat: 1, Until: 50}
	nowIs(t, "room and no more", s, 50, []api.Trigger{one}, one)
	if s.Over(50) || !s.Over(51) {
		t.Errorf("P23.2: Over(50): %t, Over(51): %t", s.Over(50), s.Over(51))
	}
}

// One that comes in some cycles alone: every Repeat from every Cycle on.
func TestSomeCycles(t *testing.T) {
	for repeat := 1; repeat <= 8; repeat *= 2 {
		for cycle := range repeat {
			m := busy()
			m.Cycles = 8
			m.Windows = []api.Window{{Kind: exclusive, Start: 70, End: 90, Cycle: cycle, Repeat: repeat, Msg: 3}}
			mine := api.Trigger{Kind: send, At: 70, Cycle: cycle, Repeat: repeat, Msg: 3, Until: 72}
			theirs := api.Trigger{Kind: get, At: 89, Cycle: cycle, Repeat: repeat, Msg: 3}
			one, other := New(m, 0), New(m, 3)
			coming := cycle
			for now := -3; now < 40; now++ {
				what := fmt.Sprintf("from %d by %d, cycle %d", cycle, repeat, now)
				one.Begin(now)
				other.Begin(now)
				if now != coming {
					nowIs(t, what, one, 199, nil, nothing)
					nowIs(t, what, other, 199, nil, nothing)
					continue
				}
				nowIs(t, what, one, 199, []api.Trigger{mine}, mine)
				nowIs(t, what, other, 199, []api.Trigger{theirs}, nothing)
				coming += repeat
			}
		}
	}
}

// Nodes that own nothing, of a matrix with and without windows and messages; a number of no node owns nothing, too.
func TestOwnsNothing(t *testing.T) {
	for _, who := range []int{3, 4, 7, 8, -1, 99, math.MinInt, math.MaxInt} {
		s := opened(who, 1, 39)
		openIs(t, "owns nothing", s, nothing)
		nowIs(t, "owns nothing", s, 5000, []api.Trigger{arb40, get79, get99, missed}, arb40)
		m := busy()
		m.Windows = slices.DeleteFunc(m.Windows, func(w api.Window) bool { return w.Kind == arbitrating })
		s = New(m, who)
		nowIs(t, "owns nothing, without windows for events", s, 5000, []api.Trigger{get39, get99, missed}, nothing)
		m.Windows = nil
		s = New(m, who)
		nowIs(t, "owns nothing, without windows", s, 5000, []api.Trigger{missed}, nothing)
		m.Messages = nil
		s = New(m, who)
		nowIs(t, "without windows and messages", s, 5000, []api.Trigger{missed}, nothing)
		m.Masters = []int{0}
		s = New(m, who)
		nowIs(t, "without windows and messages, one master", s, 5000, []api.Trigger{{Kind: watching, At: 236, Repeat: 1}}, nothing)
	}
	m := busy()
	m.Windows = nil
	nowIs(t, "a master without windows", New(m, 2), 5000, []api.Trigger{ends, first, missed}, nothing)
	nowIs(t, "a master without windows", New(m, 0), 5000, []api.Trigger{ends, second, missed}, nothing)
}

// refused: each can't be, of one fault or of many.
func refused() []api.Matrix {
	out := []api.Matrix{{}, {Length: 5}}
	set := func(change func(m *api.Matrix)) {
		m := busy()
		change(&m)
		out = append(out, m)
	}
	for _, n := range append([]int{-1, 9999}, far...) {
		set(func(m *api.Matrix) { m.Level = n })
		set(func(m *api.Matrix) { m.Nodes = n })
		set(func(m *api.Matrix) { m.Cycles = n })
		set(func(m *api.Matrix) { m.Length = n })
		set(func(m *api.Matrix) { m.Enable = n })
		set(func(m *api.Matrix) { m.Unit = n })
		set(func(m *api.Matrix) { m.Init = n })
		set(func(m *api.Matrix) { m.Masters[0] = n })
		set(func(m *api.Matrix) { m.Messages[1].Owner = n })
		set(func(m *api.Matrix) { m.Windows[6].Kind = n })
		set(func(m *api.Matrix) { m.Windows[6].Start = n })
		set(func(m *api.Matrix) { m.Windows[6].End = n })
		set(func(m *api.Matrix) { m.Windows[6].Cycle = n })
		set(func(m *api.Matrix) { m.Windows[6].Repeat = n })
		set(func(m *api.Matrix) { m.Windows[6].Msg = n })
	}
	set(func(m *api.Matrix) { m.Windows[6].Start = 11 })
	set(func(m *api.Matrix) { m.Windows[6].Msg = 2 })
	set(func(m *api.Matrix) { m.Windows[6].End-- })
	set(func(m *api.Matrix) { m.Windows[3].Cycle = 1 })
	set(func(m *api.Matrix) { m.Masters = nil })
	set(func(m *api.Matrix) { m.Masters[1] = 2 })
	set(func(m *api.Matrix) { m.Ref++ })
	return out
}

func TestRefused(t *testing.T) {
	for i, m := range refused() {
		for _, who := range nodes() {
			what := fmt.Sprintf("refused %d, node %d", i, who)
			s := New(m, who)
			openIs(t, what, s, nothing)
			nowIs(t, what, s, 5000, nil, nothing)
			for _, cycle := range []int{0, 1, 2, -1, math.MaxInt, math.MinInt} {
				s.Begin(cycle)
				nowIs(t, what, s, 20, nil, nothing)
				nowIs(t, what, s.Copy(), math.MaxInt, nil, nothing)
				s.Close()
				openIs(t, what, s, nothing)
			}
		}
	}
}

// withRoom: busy, with something in the spare room of its lists.
func withRoom() api.Matrix {
	m := busy()
	m.Masters = append(slices.Clone(m.Masters), 1, 3)[:2]
	m.Messages = append(slices.Clone(m.Messages), api.Message{ID: 1, Owner: 1})[:4]
	m.Windows = append(slices.Clone(m.Windows), api.Window{Kind: arbitrating, Start: 160, End: 190, Repeat: 1})[:7]
	return m
}

// behind tells a matrix with all that stands in its spare room.
func behind(m api.Matrix) string {
	return fmt.Sprintf("%+v %v %v %v", m, m.Masters[:cap(m.Masters)], m.Messages[:cap(m.Messages)], m.Windows[:cap(m.Windows)])
}

// The matrix is neither changed nor kept, its lists' spare room included.
func TestMatrixIsNotKept(t *testing.T) {
	for _, who := range nodes() {
		m := withRoom()
		was := behind(m)
		s := New(m, who)
		what := fmt.Sprint("the matrix was changed by its owner, node ", who)
		s.Now(45)
		clear(m.Masters[:cap(m.Masters)])
		clear(m.Messages[:cap(m.Messages)])
		clear(m.Windows[:cap(m.Windows)])
		for cycle, all := range cycles(who) {
			s.Begin(cycle)
			nowIs(t, what, s, 5000, all, opens(all))
		}
		m = withRoom()
		s = New(m, who)
		for cycle := range 4 {
			s.Begin(cycle)
			s.Now(5000)
			s.Close()
		}
		if behind(m) != was {
			t.Errorf("P23.1: node %d: the matrix was changed", who)
		}
	}
}

// spoil changes all of an answer, its spare room too.
func spoil(l []api.Trigger) {
	l = l[:cap(l)]
	for i := range l {
		l[i] = api.Trigger{Kind: send, At: -7, Cycle: -7, Repeat: -7, Msg: -7, Until: -7}
	}
}

// What is done with an answer touches no other one, nor what is open, nor a copy's.
func TestAnswersAreApart(t *testing.T) {
	for _, who := range nodes() {
		for cycle, all := range cycles(who) {
			what := fmt.Sprintf("spoilt answers, node %d, cycle %d", who, cycle)
			s := New(busy(), who)
			s.Begin(cycle)
			o := s.Copy()
			one, other := s.Now(61), o.Now(61)
			spoil(one)
			if !slices.Equal(other, between(all, 0, 61)) {
				t.Errorf("P23.1: %s: a copy's answer: %v", what, other)
			}
			openIs(t, what, s, opens(other))
			openIs(t, what+", a copy", o, opens(other))
			for _, x := range []*Sched{s, o} {
				open, _ := x.Open()
				spoil([]api.Trigger{open})
				rest := between(all, 61, 5000)
				last := opens(rest)
				if last == nothing {
					last = open
				}
				nowIs(t, what, x, 5000, rest, last)
				x.Begin(cycle)
				again := x.Now(5000)
				if !slices.Equal(again, all) {
					t.Errorf("P23.1: %s: once more: %v", what, again)
				}
				spoil(again)
				x.Begin(cycle)
				nowIs(t, what+", and once more", x, 5000, all, opens(all))
			}
		}
	}
}

// Where all that a node ever does is due at once, the answer is the caller's own as well.
func TestAnswerOfAll(t *testing.T) {
	m := busy()
	m.Windows = m.Windows[:2]
	all := []api.Trigger{send20, arb40, ends, second, missed}
	s := New(m, 0)
	o := s.Copy()
	for cycle := range 3 {
		spoil(s.Now(5000))
		openIs(t, "spoilt whole", s, arb40)
		s.Begin(cycle)
	}
	nowIs(t, "spoilt whole", s, 5000, all, arb40)
	nowIs(t, "spoilt whole, a copy", o, 5000, all, arb40)
	nowIs(t, "spoilt whole, a new one", New(m, 0), 5000, all, arb40)
}

// A copy is in the same cycle, at the same unit, with the same open; then both go their own ways.
func TestCopy(t *testing.T) {
	s := opened(0, 2, 45)
	o := s.Copy()
	openIs(t, "a copy", o, arb40)
	openIs(t, "what is copied", s, arb40)
	nowIs(t, "a copy that went on", o, 140, []api.Trigger{arb60, get99, send140}, send140)
	openIs(t, "whose copy went on", s, arb40)
	s.Close()
	openIs(t, "whose first one closed", o, send140)
	s.Begin(1)
	nowIs(t, "whose first one is in another cycle", o, 5000, []api.Trigger{ends, second, missed}, send140)
	nowIs(t, "whose copy is in another cycle", s, 60, []api.Trigger{send20, arb40, send60}, send60)
	z := s.Copy()
	o.Begin(0)
	o.Close()
	openIs(t, "whose copy began", s, send60)
	z.Close()
	openIs(t, "whose copy closed", s, send60)
	nowIs(t, "a copy's copy", z, 99, []api.Trigger{get99}, nothing)
	nowIs(t, "whose copy went on", s, 99, []api.Trigger{get99}, send60)
	nowIs(t, "the first copy", o, 40, []api.Trigger{send20, arb40}, arb40)
}

func TestCopyOfEach(t *testing.T) {
	for _, who := range nodes() {
		for cycle, all := range cycles(who) {
			for at := range behindAll {
				if at%20 > 2 && at%9 > 0 {
					continue
				}
				what := fmt.Sprintf("node %d, cycle %d at %d: ", who, cycle, at)
				open, rest := opens(between(all, 0, at)), between(all, at, 5000)
				last := opens(rest)
				if last == nothing {
					last = open
				}
				s := opened(who, cycle, at)
				o := s.Copy()
				openIs(t, what+"a copy", o, open)
				nowIs(t, what+"a first one that went on", s, 5000, rest, last)
				s.Begin(3)
				openIs(t, what+"whose first one began", o, open)
				nowIs(t, what+"a copy that went on", o, 5000, rest, last)
				openIs(t, what+"whose copy went on", s, nothing)
			}
		}
	}
	s := New(busy(), 1)
	o := s.Copy()
	s.Begin(2)
	nowIs(t, "of a new one", o, 5000, cycles(1)[0], send80)
	nowIs(t, "of a new one, that began", s, 5000, cycles(1)[2], send80)
}

// modelStep counts: units are laid until all ticks of a frame have room, one more, and Enable.
func modelStep(unit, enable int) int {
	n := 1 + enable
	for left := longest * tickCount; left > 0; left -= unit {
		n++
	}
	return n
}

// comes: the cycles in which it does are counted, if they aren't too many.
func comes(one api.Trigger, cycle int) bool {
	if cycle > 1000 {
		cycle = cycle%8 + 8
	}
	for now := one.Cycle; now <= cycle; now += one.Repeat {
		if now == cycle {
			return true
		}
	}
	return false
}

// model: what a Sched is told, and nothing reckoned ahead: all that a node of the matrix does stands at its unit.
type model struct {
	units     [][]api.Trigger
	cycle, at int
	open      api.Trigger
}

func newModel(m api.Matrix, who int) *model {
	step := modelStep(m.Unit, m.Enable)
	units := make([][]api.Trigger, m.Length+(mostMasters+2)*step+1)
	lay := func(one api.Trigger) { units[one.At] = append(units[one.At], one) }
	for _, w := range m.Windows {
		mine := w.Kind == exclusive && m.Messages[w.Msg].Owner == who
		if mine {
			lay(api.Trigger{Kind: send, At: w.Start, Cycle: w.Cycle, Repeat: w.Repeat, Msg: w.Msg, Until: w.Start + m.Enable})
		}
		if w.Kind == exclusive && !mine {
			lay(api.Trigger{Kind: get, At: w.End - 1, Cycle: w.Cycle, Repeat: w.Repeat, Msg: w.Msg})
		}
		if w.Kind == arbitrating {
			lay(api.Trigger{Kind: arb, At: w.Start, Cycle: w.Cycle, Repeat: w.Repeat, Until: w.End - step})
		}
	}
	for rank, one := range m.Masters {
		if one == who {
			lay(api.Trigger{Kind: ref, At: m.Length, Repeat: 1})
			lay(api.Trigger{Kind: ref, At: m.Length + (rank+1)*step, Repeat: 1, Msg: 1})
		}
	}
	lay(api.Trigger{Kind: watching, At: m.Length + (len(m.Masters)+2)*step, Repeat: 1})
	return &model{units: units, at: -1}
}

func (x *model) begin(cycle int) { x.cycle, x.at, x.open = cycle, 0, nothing }

func (x *model) now(at int) []api.Trigger {
	var out []api.Trigger
	for unit := x.at + 1; unit <= min(at, len(x.units)-1); unit++ {
		for _, one := range x.units[unit] {
			if !comes(one, x.cycle) {
				continue
			}
			out = append(out, one)
			if one.Kind == send || one.Kind == arb {
				x.open = one
			}
		}
	}
	x.at = max(x.at, min(at, len(x.units)))
	return out
}

func pick(random *rand.Rand, from ...int) int { return from[random.Intn(len(from))] }

func meet(a, b api.Window) bool {
	for cycle := range 8 {
		both := cycle%a.Repeat == a.Cycle && cycle%b.Repeat == b.Cycle
		if both && a.Start < b.End && b.Start < a.End {
			return true
		}
	}
	return false
}

// anyMatrix: each can be; windows are laid as long as they fit, in any order, some upon one another in unlike cycles.
func anyMatrix(random *rand.Rand) api.Matrix {
	m := api.Matrix{
		Level: 1 + random.Intn(2), Nodes: 1 + random.Intn(mostNodes), Cycles: pick(random, 1, 2, 4, 8), Length: 100 + random.Intn(150),
		Enable: 1 + random.Intn(3), Unit: pick(random, 16, 33, 47, 64), Ref: uint32(8 * random.Intn(200)),
	}
	m.Masters = random.Perm(m.Nodes)[:1+random.Intn(min(m.Nodes, mostMasters))]
	for i := range 1 + random.Intn(6) {
		m.Messages = append(m.Messages, api.Message{ID: uint32(1700 + i), Owner: random.Intn(m.Nodes)})
	}
	step := modelStep(m.Unit, m.Enable)
	for range 40 {
		w := api.Window{Kind: 1 + random.Intn(3), Start: step + random.Intn(m.Length-step), Repeat: min(m.Cycles, pick(random, 1, 2, 4, 8))}
		w.End = w.Start + step + random.Intn(12)
		w.Cycle = random.Intn(w.Repeat)
		if w.Kind == exclusive {
			w.Msg = random.Intn(len(m.Messages))
		}
		upon := func(other api.Window) bool { return meet(w, other) }
		if w.End <= m.Length && len(m.Windows) < 16 && !slices.ContainsFunc(m.Windows, upon) {
			m.Windows = append(m.Windows, w)
		}
	}
	return m
}

// P23.3: of any matrix, however a cycle is cut: all that is due in it is told once, in its order; whatever is closed, copied or asked again between.
func TestOnceAndAll(t *testing.T) {
	random := rand.New(rand.NewSource(233))
	told := 0
	for turn := range 300 {
		m := anyMatrix(random)
		for who := -1; who <= m.Nodes; who++ {
			s := New(m, who)
			for cycle := range 2 * m.Cycles {
				x := newModel(m, who)
				x.begin(cycle)
				want := x.now(math.MaxInt)
				s.Begin(cycle)
				var got []api.Trigger
				most := 1 + random.Intn(60)
				for at := 0; at < m.Length+400; at += 1 + random.Intn(most) {
					got = append(got, s.Now(at)...)
					switch random.Intn(8) {
					case 0:
						got = append(got, s.Now(at)...)
					case 1:
						got = append(got, s.Now(at-1-random.Intn(40))...)
					case 2:
						s.Close()
					case 3:
						s.Copy().Now(math.MaxInt)
					}
				}
				got = append(got, s.Now(math.MaxInt)...)
				if !slices.Equal(got, want) {
					t.Fatalf("P23.3: turn %d, node %d, cycle %d: %v, want %v, of %+v", turn, who, cycle, got, want, m)
				}
				told += len(got)
			}
		}
	}
	if told < 10000 {
		t.Errorf("P23.3: no more than %d triggers were told", told)
	}
}

// P23.3: a run of cycles as a node has them: each trigger is told in each of its cycles, and in no other one.
func TestRunOfCycles(t *testing.T) {
	for _, who := range nodes() {
		s := New(busy(), who)
		count := map[api.Trigger]int{}
		for cycle := range 80 {
			s.Begin(cycle % 4)
			for at := 0; at <= 210; at += 1 + cycle%7 {
				for _, one := range s.Now(at) {
					count[one]++
					if one.At > at || one.At <= at-1-cycle%7 {
						t.Fatalf("P23.3: node %d, cycle %d: %v at %d", who, cycle, one, at)
					}
				}
			}
		}
		want := map[api.Trigger]int{}
		for _, all := range cycles(who) {
			for _, one := range between(all, 0, 204) {
				want[one] += 20
			}
		}
		if len(count) != len(want) {
			t.Errorf("P23.3: node %d: %v, want %v", who, count, want)
		}
		for one, times := range want {
			if count[one] != times {
				t.Errorf("P23.3: node %d: %v was told %d times, want %d", who, one, count[one], times)
			}
		}
	}
}

// Whatever the order of calls, and whichever of the copies.
func TestAnyOrder(t *testing.T) {
	random := rand.New(rand.NewSource(231))
	for turn := range 200 {
		m := anyMatrix(random)
		who := random.Intn(m.Nodes+2) - 1
		list, models := []*Sched{New(m, who)}, []*model{newModel(m, who)}
		for step := range 200 {
			what := fmt.Sprintf("turn %d, step %d, node %d", turn, step, who)
			i := random.Intn(len(list))
			s, x := list[i], models[i]
			switch random.Intn(12) {
			case 0:
				cycle := pick(random, append(far, -1, 0, 1, 2, 3, 4, 5, 6, 7, 8, 9, 31)...)
				s.Begin(cycle)
				x.begin(cycle)
			case 1:
				s.Close()
				x.open = nothing
			case 2:
				other := *x
				list, models = append(list, s.Copy()), append(models, &other)
			default:
				at := x.at + pick(random, 0, 0, 1, 1, 2, 7, 20, 50, -1, -20)
				if random.Intn(30) == 0 {
					at = pick(random, append(far, -1, 0, 1, 100, 5000)...)
				}
				want := x.now(at)
				nowIs(t, what, s, at, want, x.open)
			}
			for _, i := range []int{i, random.Intn(len(list)), len(list) - 1} {
				openIs(t, what, list[i], models[i].open)
			}
		}
	}
}

// Looks at once, and copies that go on while others look.
func TestAtOnce(t *testing.T) {
	s := opened(0, 2, 45)
	var group sync.WaitGroup
	for cycle := range 8 {
		group.Go(func() {
			for range 50 {
				if open, ok := s.Open(); open != arb40 || !ok || s.Over(48) || !s.Over(49) {
					t.Errorf("P23.2: at once: %v, %t is open", open, ok)
				}
				o := s.Copy()
				o.Begin(cycle)
				got := o.Now(5000)
				if !slices.Equal(got, cycles(0)[cycle%4]) {
					t.Errorf("P23.1: at once, cycle %d: %v", cycle, got)
				}
				spoil(got)
			}
		})
	}
	group.Wait()
	openIs(t, "looked at", s, arb40)
	nowIs(t, "looked at", s, 60, []api.Trigger{arb60}, arb60)
}

// One that no New made has nothing to do, and no call of it panics.
func TestNotMade(t *testing.T) {
	var s Sched
	openIs(t, "not made", &s, nothing)
	for _, n := range append([]int{-1, 0, 1, 40}, far...) {
		nowIs(t, "not made", &s, n, nil, nothing)
		s.Close()
		s.Begin(n)
		nowIs(t, "not made", s.Copy(), math.MaxInt, nil, nothing)
	}
}
