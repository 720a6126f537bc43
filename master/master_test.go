package master

import (
	"fmt"
	"math"
	"math/rand"
	"slices"
	"sync"
	"testing"

	"ostinato/api"
)

// The states and limits of the document, written out.
const (
	waiting = iota
	syncing
	inTime

	mostMasters = 4
	nobody      = -1
)

// ranks: of masters, and far from them; some of them would be one's if but their low bits were looked at.
var ranks = []int{math.MinInt, math.MinInt + 1, math.MinInt32, -1 << 32, -1<<32 + 2, -65536, -65535, -256, -255, -4, -2, -1, 0, 1, 2, 3, 4, 5, 7, 127, 128, 255, 256, 257, 32767, 32768, 65535, 65536, 65538, math.MaxInt32, 1 << 31, 1 << 32, 1<<32 + 1, math.MaxInt - 1, math.MaxInt}

// told: all that a master tells.
type told struct {
	state, leader int
	leads, stands bool
}

func toldBy(m *Master) told { return told{m.State(), m.Leader(), m.Leads(), m.Stands()} }

// same holds a master to what it tells, asked twice: to be asked changes nothing.
func same(t *testing.T, what string, m *Master, want told) {
	t.Helper()
	for _, turn := range []string{"", ", asked again"} {
		if got := toldBy(m); got != want {
			t.Fatalf("%s%s: %+v, want %+v", what, turn, got, want)
		}
	}
}

// is holds a master of that rank to a state and a leader, and to what P22.2 makes of them.
func is(t *testing.T, what string, m *Master, rank, state, leader int) {
	t.Helper()
	want := told{state: state, leader: leader, stands: rank > -1}
	if rank > -1 && state == inTime && (leader == rank || leader > rank) {
		want.leads = true
	}
	same(t, what, m, want)
}

// beat: each number is a call of its own.
func beat(m *Master, ranks ...int) *Master {
	for _, rank := range ranks {
		m.Beat(rank)
	}
	return m
}

func sent(m *Master) *Master {
	m.Sent()
	return m
}

func watch(m *Master) *Master {
	m.Watch()
	return m
}

func TestLimits(t *testing.T) {
	if api.Waiting != waiting || api.Syncing != syncing || api.InTime != inTime {
		t.Fatal("P22.1: other states than the tests have")
	}
	if api.MaxMasters != mostMasters {
		t.Fatal("P22.3: other limits than the tests have")
	}
}

// The chapter's example.
func TestExample(t *testing.T) {
	m := New(0)
	same(t, "P22.1: the example, a new one", m, told{waiting, nobody, false, true})
	same(t, "P22.1: the example, a beat of 2", beat(m, 2), told{syncing, 2, false, true})
	same(t, "P22.2: the example, a second one", beat(m, 2), told{inTime, 2, true, true})
}

func TestNew(t *testing.T) {
	for _, rank := range ranks {
		what := fmt.Sprint("P22.1: New of ", rank)
		one, two := New(rank), New(rank)
		is(t, what, one, rank, waiting, nobody)
		beat(one, 3, 3)
		is(t, what+", one that was made alike", two, rank, waiting, nobody)
		is(t, what+", a beat of it", beat(two, 1), rank, syncing, 1)
		is(t, what+", one that is made later", New(rank), rank, waiting, nobody)
	}
}

// A row of all calls, of one that is in the middle of four.
func TestRow(t *testing.T) {
	m := New(1)
	for i, x := range []struct {
		step func(*Master) *Master
		want told
	}{
		{watch, told{waiting, nobody, false, true}},
		{func(m *Master) *Master { return beat(m, 0) }, told{syncing, 0, false, true}},
		{func(m *Master) *Master { return beat(m, 0) }, told{inTime, 0, false, true}},
		{func(m *Master) *Master { return beat(m, 0) }, told{inTime, 0, false, true}},
		{func(m *Master) *Master { return beat(m, 3) }, told{inTime, 3, true, true}},
		{sent, told{inTime, 1, true, true}},
		{sent, told{inTime, 1, true, true}},
		{func(m *Master) *Master { return beat(m, 0) }, told{inTime, 0, false, true}},
		{func(m *Master) *Master { return beat(m, 1) }, told{inTime, 1, true, true}},
		{func(m *Master) *Master { return beat(m, 2) }, told{inTime, 2, true, true}},
		{watch, told{waiting, nobody, false, true}},
		{watch, told{waiting, nobody, false, true}},
		{func(m *Master) *Master { return beat(m, 2) }, told{syncing, 2, false, true}},
		{watch, told{waiting, nobody, false, true}},
		{sent, told{inTime, 1, true, true}},
		{watch, told{waiting, nobody, false, true}},
		{func(m *Master) *Master { return beat(m, 3) }, told{syncing, 3, false, true}},
		{sent, told{inTime, 1, true, true}},
		{func(m *Master) *Master { return beat(m, 0) }, told{inTime, 0, false, true}},
	} {
		same(t, fmt.Sprint("P22.1: row ", i), x.step(m), x.want)
	}
}

// The same row, of one that never beats.
func TestRowOfOneThatNeverBeats(t *testing.T) {
	for _, rank := range []int{-1, -2, -256, math.MinInt} {
		what := fmt.Sprintf("P22.1: rank %d", rank)
		m := New(rank)
		same(t, what+", its own beat, while it waits", sent(m), told{waiting, nobody, false, false})
		same(t, what+", a first beat", beat(m, 0), told{syncing, 0, false, false})
		same(t, what+", its own beat", sent(m), told{syncing, 0, false, false})
		same(t, what+", a second beat", beat(m, 3), told{inTime, 3, false, false})
		same(t, what+", its own beat, in time", sent(m), told{inTime, 3, false, false})
		same(t, what+", a beat of that rank", beat(m, rank), told{inTime, rank, false, false})
		same(t, what+", and its own", sent(m), told{inTime, rank, false, false})
		same(t, what+", a watch", watch(m), told{waiting, nobody, false, false})
		same(t, what+", and its own beat", sent(m), told{waiting, nobody, false, false})
	}
}

// The first, the second, the third and later ones, of every rank that hears and every one that beats.
func TestBeats(t *testing.T) {
	for _, rank := range ranks {
		for _, of := range ranks {
			what := fmt.Sprintf("P22.1: rank %d, beats of %d: ", rank, of)
			m := New(rank)
			is(t, what+"none", m, rank, waiting, nobody)
			is(t, what+"the first", beat(m, of), rank, syncing, of)
			is(t, what+"the second", beat(m, of), rank, inTime, of)
			is(t, what+"the third", beat(m, of), rank, inTime, of)
			is(t, what+"the hundredth", beat(m, slices.Repeat([]int{of}, 97)...), rank, inTime, of)
		}
	}
}

// Of two that beat by turns the last one is the leader, and each beat counts, whoever's it is.
func TestBeatsOfTwo(t *testing.T) {
	for _, rank := range ranks {
		for _, one := range ranks {
			for _, two := range ranks {
				what := fmt.Sprintf("P22.1: rank %d, beats of %d and %d", rank, one, two)
				is(t, what, beat(New(rank), one, two), rank, inTime, two)
				is(t, what+", and the first one again", beat(New(rank), one, two, one), rank, inTime, one)
			}
		}
	}
}

// Its own beat: while it waits, syncs, is in time; whoever led before.
func TestSent(t *testing.T) {
	for _, rank := range ranks {
		for _, of := range ranks {
			for beats := range 4 {
				what := fmt.Sprintf("P22.1: rank %d, its own beat behind %d of %d", rank, beats, of)
				m := beat(New(rank), slices.Repeat([]int{of}, beats)...)
				was := toldBy(m)
				for range 2 {
					sent(m)
					if rank < 0 {
						same(t, what, m, was)
					} else {
						same(t, what, m, told{inTime, rank, true, true})
					}
				}
				state := min(beats+1, inTime)
				if rank >= 0 {
					state = inTime
				}
				is(t, what+", and one more of it", beat(m, of), rank, state, of)
			}
		}
	}
}

// A watch: while it waits, syncs, is in time, also by its own beat; then all begins anew.
func TestWatch(t *testing.T) {
	for _, rank := range ranks {
		for _, of := range []int{0, 1, 3, rank} {
			for i, m := range []*Master{
				New(rank), watch(New(rank)), beat(New(rank), of), beat(New(rank), of, of), beat(New(rank), of, of, of), sent(New(rank)), sent(beat(New(rank), of)), beat(sent(New(rank)), of),
			} {
				what := fmt.Sprintf("P22.1: rank %d, beats of %d, %d: watch", rank, of, i)
				is(t, what, watch(m), rank, waiting, nobody)
				is(t, what+", and once more", watch(m), rank, waiting, nobody)
				is(t, what+", then a beat", beat(m, of), rank, syncing, of)
				is(t, what+", then watch", watch(m), rank, waiting, nobody)
				is(t, what+", then two beats", beat(m, 2, of), rank, inTime, of)
			}
		}
	}
}

// In each state, with a leader below, of its own rank, above, and none.
func TestLeads(t *testing.T) {
	for i, x := range []struct {
		rank, leader int
		leads        bool // in time
	}{
		{0, 0, true}, {0, 1, true}, {0, 2, true}, {0, 3, true}, {0, math.MaxInt, true}, {0, -1, false}, {0, -2, false}, {0, math.MinInt, false},
		{1, 0, false}, {1, 1, true}, {1, 2, true}, {1, 3, true}, {1, -1, false}, {1, math.MinInt, false}, {1, 1 << 32, true},
		{2, 0, false}, {2, 1, false}, {2, 2, true}, {2, 3, true},
		{3, 0, false}, {3, 1, false}, {3, 2, false}, {3, 3, true}, {3, 4, true}, {3, -4, false}, {3, 1<<32 + 2, true},
		{-1, -1, false}, {-1, 0, false}, {-1, 3, false}, {-1, -2, false}, {-1, math.MaxInt, false},
		{-2, -2, false}, {-2, -1, false}, {-2, 0, false}, {math.MinInt, math.MinInt, false}, {math.MinInt, math.MaxInt, false},
		{math.MaxInt, math.MaxInt - 1, false}, {math.MaxInt, math.MaxInt, true}, {math.MaxInt, -1, false}, {math.MaxInt - 1, math.MaxInt, true},
	} {
		m := New(x.rank)
		for state, want := range []bool{false, false, x.leads, x.leads} {
			if got := m.Leads(); got != want {
				t.Errorf("P22.2: row %d, rank %d, leader %d, %d beats: Leads %t, want %t", i, x.rank, x.leader, state, got, want)
			}
			if got := m.Stands(); got != (x.rank > -1) {
				t.Errorf("P22.2: row %d, rank %d, leader %d, %d beats: Stands %t", i, x.rank, x.leader, state, got)
			}
			m.Beat(x.leader)
		}
		m.Watch()
		if m.Leads() || m.Stands() != (x.rank > -1) {
			t.Errorf("P22.2: row %d, rank %d, behind a watch: Leads %t, Stands %t", i, x.rank, m.Leads(), m.Stands())
		}
	}
}

// Two that hear one another's beats, both from New on.
func TestTwo(t *testing.T) {
	low, high := New(0), New(1)
	both := func(what string, one, two told) {
		t.Helper()
		same(t, "P22.3: "+what+", rank 0", low, one)
		same(t, "P22.3: "+what+", rank 1", high, two)
	}
	sent(high)
	beat(low, 1)
	both("1 beats first", told{syncing, 1, false, true}, told{inTime, 1, true, true})
	sent(high)
	beat(low, 1)
	both("1 beats again", told{inTime, 1, true, true}, told{inTime, 1, true, true})
	sent(low) // both try: the least rank's frame wins
	beat(high, 0)
	both("0 takes over", told{inTime, 0, true, true}, told{inTime, 0, false, true})
	low = New(0) // crashed, and there again
	sent(high)
	beat(low, 1)
	both("1 steps in", told{syncing, 1, false, true}, told{inTime, 1, true, true})
	watch(low)
	watch(high)
	both("both wait", told{waiting, nobody, false, true}, told{waiting, nobody, false, true})
	sent(low)
	beat(high, 0)
	both("0 begins", told{inTime, 0, true, true}, told{syncing, 0, false, true})
	sent(high) // though 0 leads
	beat(low, 1)
	both("1 beats out of turn", told{inTime, 1, true, true}, told{inTime, 1, true, true})
}

// crowd: masters by their ranks, nil where none lives; beside them one that never beats.
type crowd struct {
	live   [mostMasters]*Master
	beside *Master
}

func (c *crowd) least() int {
	for rank, m := range c.live {
		if m != nil {
			return rank
		}
	}
	return nobody
}

// first: the least rank of those that live and want to beat; it wins on the wire.
func (c *crowd) first(wants func(*Master) bool) int {
	for rank, m := range c.live {
		if m != nil && wants(m) {
			return rank
		}
	}
	return nobody
}

// cycle: who leads beats at its end; if none does, who stands, the least rank first; if nobody beats, all watch.
func (c *crowd) cycle() {
	by := c.first((*Master).Leads)
	if by == nobody {
		by = c.first((*Master).Stands)
	}
	for rank, m := range append(c.live[:], c.beside) {
		switch {
		case m == nil:
		case by == nobody:
			m.Watch()
		case rank == by:
			m.Sent()
		default:
			m.Beat(by)
		}
	}
}

// settled: behind three cycles the least rank that lives leads, it alone, and all that live know it; and so it stays.
func (c *crowd) settled(t *testing.T, what string) {
	t.Helper()
	for range 3 {
		c.cycle()
	}
	least := c.least()
	for more := range 4 {
		for rank, m := range c.live {
			if m != nil && (m.Leads() != (rank == least) || m.Leader() != least) {
				t.Fatalf("P22.3: %s, %d cycles behind: rank %d: %+v, the least is %d", what, 3+more, rank, toldBy(m), least)
			}
			if m != nil && more > 1 && m.State() != inTime {
				t.Fatalf("P22.3: %s, %d cycles behind: rank %d isn't in time", what, 3+more, rank)
			}
		}
		if c.beside.Leads() || c.beside.Stands() || c.beside.Leader() != least {
			t.Fatalf("P22.3: %s, %d cycles behind: of one that never beats: %+v, the least is %d", what, 3+more, toldBy(c.beside), least)
		}
		c.cycle()
	}
}

// masters: of a rank, none at all and ones in all states with all leaders.
func masters(rank int) []*Master {
	out := []*Master{nil, New(rank), sent(New(rank))}
	for of := range mostMasters {
		out = append(out, beat(New(rank), of), beat(New(rank), of, of))
	}
	return out
}

// P22.3: from whatever each of them knows.
func TestLeastLeadsFromAnyStates(t *testing.T) {
	for i0, m0 := range masters(0) {
		for i1, m1 := range masters(1) {
			for i2, m2 := range masters(2) {
				for i3, m3 := range masters(3) {
					c := crowd{beside: New(-1)}
					for rank, m := range []*Master{m0, m1, m2, m3} {
						if m != nil {
							c.live[rank] = m.Copy()
						}
					}
					c.settled(t, fmt.Sprint("from states ", i0, i1, i2, i3))
				}
			}
		}
	}
}

// P22.3: whoever crashes and comes back, whenever.
func TestLeastLeadsBehindCrashes(t *testing.T) {
	r := rand.New(rand.NewSource(223))
	for turn := range 300 {
		c := crowd{beside: New(-1)}
		for step := range 30 {
			for range r.Intn(3) {
				rank := r.Intn(mostMasters)
				if c.live[rank] = nil; r.Intn(3) > 0 {
					c.live[rank] = New(rank)
				}
			}
			for range r.Intn(3) {
				c.cycle()
			}
			c.settled(t, fmt.Sprintf("turn %d, step %d", turn, step))
		}
	}
}

// A copy tells what the first one tells, and both go their own ways from there.
func TestCopy(t *testing.T) {
	m := beat(New(1), 3)
	o := m.Copy()
	is(t, "P22.1: a copy", o, 1, syncing, 3)
	is(t, "P22.1: what is copied", m, 1, syncing, 3)
	is(t, "P22.1: a copy that went on", sent(o), 1, inTime, 1)
	is(t, "P22.1: whose copy went on", m, 1, syncing, 3)
	is(t, "P22.1: a first one that went on", beat(m, 0), 1, inTime, 0)
	is(t, "P22.1: whose first one went on", o, 1, inTime, 1)
	z := o.Copy()
	is(t, "P22.1: a first one that watched", watch(m), 1, waiting, nobody)
	is(t, "P22.1: a copy that heard another one", beat(o, 2), 1, inTime, 2)
	is(t, "P22.1: a copy's copy", z, 1, inTime, 1)
	is(t, "P22.1: a copy that watched", watch(z), 1, waiting, nobody)
	is(t, "P22.1: whose copy watched", o, 1, inTime, 2)
}

// Of every rank in every state: a copy is of that rank and in that state.
func TestCopyOfEach(t *testing.T) {
	for _, rank := range ranks {
		for _, of := range ranks {
			for i, m := range []*Master{New(rank), beat(New(rank), of), beat(New(rank), of, of), sent(New(rank)), watch(beat(New(rank), of, of))} {
				what := fmt.Sprintf("P22.1: rank %d, beats of %d, %d: ", rank, of, i)
				was := toldBy(m)
				o := m.Copy()
				same(t, what+"a copy", o, was)
				beat(watch(m), 5)
				same(t, what+"whose first one went on", o, was)
				sent(watch(o))
				is(t, what+"a first one whose copy went on", m, rank, syncing, 5)
				if rank < 0 {
					same(t, what+"a copy that went on", o, told{waiting, nobody, false, false})
				} else {
					same(t, what+"a copy that went on", o, told{inTime, rank, true, true})
				}
			}
		}
	}
}

// call: a beat of a rank that came, the own one, a watch.
type call struct {
	kind byte // 'b', 's', 'w'
	rank int
}

// fates: what a row of calls leaves, looked for from its end on: the state is how many beats came since the last watch, all of them by an own one; the leader is the last one's.
func fates(rank int, row []call) (state, leader int) {
	state, leader = waiting, nobody
	for i := len(row) - 1; i >= 0 && row[i].kind != 'w' && state < inTime; i-- {
		of, more := row[i].rank, 1
		if row[i].kind == 's' {
			if rank < 0 {
				continue
			}
			of, more = rank, inTime
		}
		if state == waiting {
			leader = of
		}
		state = min(state+more, inTime)
	}
	return state, leader
}

func (x call) tell(m *Master) {
	switch x.kind {
	case 'b':
		m.Beat(x.rank)
	case 's':
		m.Sent()
	default:
		m.Watch()
	}
}

// Every row of up to six calls, with a copy at each step that is told something else.
func TestAllRows(t *testing.T) {
	for _, rank := range []int{-2, -1, 0, 1, 3} {
		calls := []call{{'s', 0}, {'w', 0}, {'b', rank - 1}, {'b', rank}, {'b', rank + 1}}
		var row []call
		var next func(m *Master)
		next = func(m *Master) {
			state, leader := fates(rank, row)
			is(t, fmt.Sprintf("P22.1: rank %d, row %c", rank, row), m, rank, state, leader)
			if len(row) == 6 {
				return
			}
			for _, x := range calls {
				row = append(row, x)
				other := m.Copy()
				x.tell(other)
				next(other)
				row = row[:len(row)-1]
			}
			is(t, fmt.Sprintf("P22.1: rank %d, row %c, whose copies went on", rank, row), m, rank, state, leader)
		}
		next(New(rank))
	}
}

// Whatever the order of calls, and whichever of the copies.
func TestAnyOrder(t *testing.T) {
	r := rand.New(rand.NewSource(221))
	for turn := range 200 {
		rank := ranks[r.Intn(len(ranks))]
		ms, rows := []*Master{New(rank)}, [][]call{nil}
		for step := range 150 {
			what := fmt.Sprintf("P22.1: turn %d, step %d, rank %d", turn, step, rank)
			i, x := r.Intn(len(ms)), call{kind: "bbbbbbssw"[r.Intn(9)]}
			if x.kind == 'b' {
				x.rank = ranks[r.Intn(len(ranks))]
			}
			if r.Intn(10) == 0 {
				ms, rows = append(ms, ms[i].Copy()), append(rows, slices.Clone(rows[i]))
			} else {
				x.tell(ms[i])
				rows[i] = append(rows[i], x)
			}
			for _, i := range []int{i, r.Intn(len(ms)), len(ms) - 1} {
				state, leader := fates(rank, rows[i])
				is(t, what, ms[i], rank, state, leader)
			}
		}
	}
}

// A master that New didn't make: its calls end all the same.
func TestNotMade(t *testing.T) {
	var m Master
	toldBy(beat(sent(watch(m.Copy())), 2, 2))
	if watch(&m); m.State() != waiting || m.Leader() != nobody {
		t.Errorf("P22.1: behind a watch: %+v", toldBy(&m))
	}
}

// Looks change nothing, not for other looks at the same time either.
func TestLooksAtOnce(t *testing.T) {
	m, o := beat(New(1), 2, 2), beat(New(-1), 0)
	one, two := toldBy(m), toldBy(o)
	var looks sync.WaitGroup
	for range 4 {
		looks.Go(func() {
			for range 2000 {
				if toldBy(m) != one || toldBy(o) != two || toldBy(watch(m.Copy())) != (told{waiting, nobody, false, true}) {
					t.Error("P22.1: a look that another one changed")
					return
				}
			}
		})
	}
	looks.Wait()
	same(t, "P22.1: behind all looks", m, told{inTime, 2, true, true})
	same(t, "P22.1: behind all looks", o, told{syncing, 0, false, false})
}
