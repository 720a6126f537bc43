package mark

import (
	"fmt"
	"math"
	"math/rand"
	"testing"

	"ostinato/api"
	"ostinato/clock"
)

// The limits and numbers of the document, written out.
const (
	mostCycles = 8
	round      = 1 << 16
)

// view: what a mark tells, but for At.
type view struct {
	last  int
	known bool
	cycle int
}

func viewOf(m *Mark) view {
	last, known := m.Last()
	return view{int(last), known, m.Cycle()}
}

var none = view{}

// from: a cycle of this number began there.
func from(last, cycle int) view { return view{last, true, cycle} }

// at: how far a time is from the beginning, reckoned without words that go round.
func (v view) at(t int) (int, bool) {
	if !v.known {
		return 0, false
	}
	return (t - v.last + round) % round, true
}

// times: some of all sides of a beginning, and of the clock's end.
func times(v view) []int {
	out := []int{0, 1, 2, 255, 256, 32767, 32768, 32769, 65534, 65535}
	for _, far := range []int{-32768, -256, -2, -1, 0, 1, 2, 256, 4000, 32767} {
		out = append(out, (v.last+far+round)%round)
	}
	return out
}

func same(t *testing.T, what string, m *Mark, want view) {
	t.Helper()
	if got := viewOf(m); got != want {
		t.Fatalf("%s: %+v, want %+v", what, got, want)
	}
	for _, now := range times(want) {
		far, ok := want.at(now)
		if got, there := m.At(uint16(now)); got != far || there != ok {
			t.Fatalf("%s: At(%d): %d, %v, want %d, %v", what, now, got, there, far, ok)
		}
	}
}

// start: each number is a call of its own.
func start(m *Mark, ts ...uint16) *Mark {
	for _, t := range ts {
		m.Start(t)
	}
	return m
}

// beat: each number is a call of its own.
func beat(m *Mark, cycles ...int) *Mark {
	for _, c := range cycles {
		m.Beat(c)
	}
	return m
}

func forget(m *Mark) *Mark {
	m.Forget()
	return m
}

func TestLimits(t *testing.T) {
	if api.MaxCycles != mostCycles {
		t.Fatal("P10.1: other limits than the tests have")
	}
}

func TestNew(t *testing.T) {
	one, two := New(), New()
	same(t, "P10.1: a new one", one, none)
	beat(start(one, 9), 2)
	same(t, "P10.1: another one that was made alike", two, none)
	same(t, "P10.1: and a beat of it", beat(two, 2), none)
	same(t, "P10.1: one that is made later", New(), none)
}

func TestRowsOfBeats(t *testing.T) {
	m := New()
	for i, x := range []struct {
		start uint16
		cycle int
	}{
		{100, 0}, {300, 1}, {500, 2}, {500, 3}, {499, 3}, {65535, 7}, {65535, 0}, {0, 1}, {0, 0}, {32768, 5}, {1, 4}, {40000, 6},
	} {
		was := viewOf(m)
		start(m, x.start)
		same(t, fmt.Sprint("P10.1: row ", i, ", its start"), m, was)
		beat(m, x.cycle)
		same(t, fmt.Sprint("P10.1: row ", i, ", its beat"), m, from(int(x.start), x.cycle))
	}
}

func TestBeatWithoutStart(t *testing.T) {
	for _, cycle := range []int{math.MinInt, -1, 0, 1, 3, 7, 8, math.MaxInt} {
		m := beat(New(), cycle)
		same(t, fmt.Sprint("P10.1: a beat without a start, of ", cycle), m, none)
		same(t, "P10.1: and once more", beat(m, cycle), none)
		same(t, "P10.1: a start behind it, and no beat", start(m, 40), none)
		same(t, "P10.1: and its own beat", beat(m, 2), from(40, 2))
	}
}

func TestStartAlone(t *testing.T) {
	for _, at := range []uint16{0, 1, 7, 32768, 65535} {
		what := fmt.Sprint("P10.1: a start at ", at)
		same(t, what, start(New(), at), none)
		m := beat(start(New(), 200), 6)
		same(t, what+", of one that began", start(m, at), from(200, 6))
		same(t, what+" and its beat", beat(m, 1), from(int(at), 1))
	}
}

func TestLastStartCounts(t *testing.T) {
	for i, ts := range [][]uint16{
		{1, 2}, {2, 1}, {5, 5}, {5, 9, 7}, {9, 0}, {0, 9}, {65535, 0}, {0, 65535}, {65535, 3, 65534}, {10, 20, 30, 40, 50, 60, 70, 80, 90, 100},
	} {
		what := fmt.Sprint("P10.1: row ", i)
		last := int(ts[len(ts)-1])
		same(t, what+", of a new one", beat(start(New(), ts...), 4), from(last, 4))
		m := start(beat(start(New(), 1234), 3), ts...)
		same(t, what+", ahead of the beat", m, from(1234, 3))
		same(t, what, beat(m, 4), from(last, 4))
	}
}

func TestBeatsOfOneStart(t *testing.T) {
	m := beat(start(New(), 700), 2)
	same(t, "P10.1: a first beat", m, from(700, 2))
	same(t, "P10.1: a second one of the same start", beat(m, 5), from(700, 5))
	same(t, "P10.1: the same once more", beat(m, 5), from(700, 5))
	same(t, "P10.1: of less", beat(m, 0), from(700, 0))
	same(t, "P10.1: of another start", beat(start(m, 0), 1), from(0, 1))
	same(t, "P10.1: a second one of a start at 0", beat(m, 6), from(0, 6))
}

func TestCycleIsHeld(t *testing.T) {
	for _, x := range []struct{ cycle, want int }{
		{math.MinInt, 0}, {math.MinInt + 1, 0}, {-1 << 32, 0}, {3 - 1<<32, 0}, {-round, 0}, {3 - round, 0}, {-256, 0}, {-8, 0}, {-7, 0}, {-2, 0}, {-1, 0},
		{0, 0}, {1, 1}, {2, 2}, {3, 3}, {4, 4}, {5, 5}, {6, 6}, {7, 7},
		{8, 7}, {9, 7}, {15, 7}, {16, 7}, {255, 7}, {256, 7}, {259, 7}, {32768, 7}, {round - 1, 7}, {round, 7}, {round + 3, 7}, {1 << 31, 7}, {1 << 32, 7}, {1<<32 + 3, 7}, {math.MaxInt - 1, 7}, {math.MaxInt, 7},
	} {
		what := fmt.Sprint("P10.1: cycle ", x.cycle)
		same(t, what, beat(start(New(), 77), x.cycle), from(77, x.want))
		same(t, what+", behind another one", beat(start(New(), 77), 4, x.cycle), from(77, x.want))
	}
}

func TestForget(t *testing.T) {
	for i, x := range []struct {
		m    *Mark
		what string
	}{
		{New(), "ahead of everything"},
		{beat(New(), 3), "behind a beat without a start"},
		{start(New(), 50), "behind a start"},
		{start(New(), 50, 60), "behind two starts"},
		{beat(start(New(), 50), 3), "behind a beat"},
		{beat(start(New(), 50), 3, 4), "behind two beats"},
		{start(beat(start(New(), 50), 3), 90), "behind a beat and another start"},
		{forget(beat(start(New(), 50), 3)), "behind another forget"},
	} {
		what := "P10.1: forget " + x.what
		same(t, what, forget(x.m), none)
		same(t, what+", and once more", forget(x.m), none)
		same(t, what+", and a beat", beat(x.m, 5), none)
		same(t, what+", and a start", start(x.m, uint16(10*i)), none)
		same(t, what+", and its beat", beat(x.m, 6), from(10*i, 6))
	}
}

func TestExample(t *testing.T) {
	m := beat(start(New(), 65535), 0)
	if far, ok := m.At(1); far != 2 || !ok {
		t.Fatalf("P10.1: the chapter's example: %d, %v", far, ok)
	}
	same(t, "P10.1: the chapter's example", m, from(65535, 0))
}

func TestAt(t *testing.T) {
	for _, x := range []struct {
		begin, now uint16
		want       int
	}{
		{0, 0, 0}, {9, 9, 0}, {32768, 32768, 0}, {65535, 65535, 0},
		{9, 8, 65535}, {0, 65535, 65535}, {65535, 65534, 65535}, {32768, 32767, 65535},
		{9, 10, 1}, {65535, 0, 1}, {65535, 1, 2}, {65530, 4, 10}, {65530, 65535, 5}, {65530, 65529, 65535}, {4, 65530, 65526},
		{0, 32767, 32767}, {0, 32768, 32768}, {32768, 0, 32768}, {32767, 0, 32769}, {100, 4099, 3999}, {62000, 464, 4000}, {40000, 100, 25636},
	} {
		m := beat(start(New(), x.begin), 2)
		if got, ok := m.At(x.now); got != x.want || !ok {
			t.Errorf("P10.1: begun at %d: At(%d): %d, %v, want %d", x.begin, x.now, got, ok, x.want)
		}
	}
}

// The time within a cycle is the one thing that it may be, at all times of a clock, from beginnings at all of its sides.
func TestAtGoesRound(t *testing.T) {
	for _, begin := range []int{0, 1, 255, 256, 4000, 32767, 32768, 32769, 65279, 65280, 65534, 65535} {
		m := beat(start(New(), uint16(begin)), 1)
		for far := range round {
			if got, ok := m.At(uint16(begin + far)); got != far || !ok {
				t.Fatalf("P10.2: %d on from %d: %d, %v", far, begin, got, ok)
			}
		}
		same(t, "P10.2: what is asked changes nothing", m, from(begin, 1))
	}
}

// Of all times of the clock, at which a cycle begins: one ahead of it, itself, one behind it.
func TestAllBeginnings(t *testing.T) {
	m := New()
	for begin := range round {
		beat(start(m, uint16(begin)), begin%mostCycles)
		ahead, _ := m.At(uint16(begin - 1))
		now, _ := m.At(uint16(begin))
		behind, _ := m.At(uint16(begin + 1))
		if last, ok := m.Last(); ahead != round-1 || now != 0 || behind != 1 || int(last) != begin || !ok {
			t.Fatalf("P10.2: begun at %d: %d, %d, %d; from %d, %v", begin, ahead, now, behind, last, ok)
		}
	}
}

// With a clock that goes round many times: each cycle's units, and all of them together, are the clock's.
func TestWithAClock(t *testing.T) {
	for _, length := range []int{1, 7, 999, 4000} {
		c, m := clock.New(1), New()
		start(m, c.Time())
		beat(m, 0)
		all := 0
		for range 3 * round {
			c.Tick(1)
			all++
			far, ok := m.At(c.Time())
			if want := (all-1)%length + 1; far != want || !ok {
				t.Fatalf("P10.2: cycles of %d, unit %d: %d, %v", length, all, far, ok)
			}
			if far == length {
				start(m, c.Time())
				beat(m, (m.Cycle()+1)%mostCycles)
			}
		}
		if want := all / length % mostCycles; m.Cycle() != want {
			t.Fatalf("P10.2: cycles of %d: %d, want %d", length, m.Cycle(), want)
		}
	}
}

func TestCopy(t *testing.T) {
	same(t, "P10.1: a copy of a new one", New().Copy(), none)
	same(t, "P10.1: and a beat of it", beat(New().Copy(), 1), none)
	same(t, "P10.1: a copy behind a start", start(New(), 8).Copy(), none)
	same(t, "P10.1: and a beat of it", beat(start(New(), 8).Copy(), 1), from(8, 1))
	same(t, "P10.1: a copy behind a beat", beat(start(New(), 8), 1).Copy(), from(8, 1))
	same(t, "P10.1: a copy behind a forget", beat(forget(beat(start(New(), 8), 1)).Copy(), 2), none)

	m := start(beat(start(New(), 65000), 7), 300) // behind a start, ahead of its beat
	o := m.Copy()
	same(t, "P10.1: a copy", o, from(65000, 7))
	same(t, "P10.1: what is copied", m, from(65000, 7))
	same(t, "P10.1: it goes on", beat(m, 0), from(300, 0))
	same(t, "P10.1: its copy stays", o, from(65000, 7))
	start(m, 600)
	same(t, "P10.1: the copy goes on from its own start", beat(o, 2), from(300, 2))
	same(t, "P10.1: what was copied stays", m, from(300, 0))
	start(o, 900)
	same(t, "P10.1: what was copied has its own start", beat(m, 1), from(600, 1))
	third := o.Copy()
	same(t, "P10.1: the copy is forgotten", forget(o), none)
	same(t, "P10.1: what was copied isn't", m, from(600, 1))
	same(t, "P10.1: nor is a copy's copy", third, from(300, 2))
	same(t, "P10.1: nor is its start", beat(third, 3), from(900, 3))
	same(t, "P10.1: what was copied is forgotten", forget(m), none)
	same(t, "P10.1: a copy's copy isn't", third, from(900, 3))
}

// model: the chapter's words as they stand: a start and a beginning, each there or not.
type model struct {
	start   int
	started bool
	now     view
}

func (x *model) beat(cycle int) {
	if x.started {
		x.now = from(x.start, min(max(cycle, 0), mostCycles-1))
	}
}

// Whatever is told in whatever order, with copies between that take the place of what they were made of.
func TestAnyOrder(t *testing.T) {
	r := rand.New(rand.NewSource(101))
	for range 300 {
		m, x := New(), model{}
		for step := range 200 {
			switch r.Intn(8) {
			case 0, 1, 2:
				at := []int{r.Intn(round), 0, round - 1}[r.Intn(3)]
				start(m, uint16(at))
				x.start, x.started = at, true
			case 3, 4, 5:
				cycle := r.Intn(14) - 3
				beat(m, cycle)
				x.beat(cycle)
			case 6:
				if r.Intn(3) == 0 {
					forget(m)
					x = model{}
				}
			case 7:
				was := m
				m = m.Copy()
				if r.Intn(2) == 0 {
					forget(was)
				}
				beat(start(was, uint16(r.Intn(round))), r.Intn(mostCycles))
			}
			same(t, fmt.Sprint("P10.1: step ", step), m, x.now)
		}
	}
}
