package global

import (
	"fmt"
	"math"
	"math/rand"
	"testing"

	"ostinato/clock"
)

// The numbers of the document, written out.
const (
	longest = 1000
	mostOf  = 1000000
	round   = 1 << 16
)

// told: a beat, as it is handed in.
type told struct {
	who          int
	global, mark int
	disc         bool
}

// model: the chapter's words as they stand: all beats since the last Forget, the last one last.
type model []told

// steady goes back from the last beat, as far as the words do.
func (x model) steady() int {
	n := 0
	for i := len(x) - 1; i >= 0 && x[i].who == x[len(x)-1].who; i-- {
		n++
		if x[i].disc {
			break
		}
	}
	return min(n, longest)
}

// at is reckoned without words that go round.
func (x model) at(t int) int {
	if len(x) == 0 {
		return t
	}
	last := x[len(x)-1]
	return (t + last.global - last.mark + round) % round
}

func (x model) lengths() (int, int, bool) {
	if x.steady() < 2 {
		return 0, 0, false
	}
	last, ahead := x[len(x)-1], x[len(x)-2]
	return (last.global - ahead.global + round) % round, (last.mark - ahead.mark + round) % round, true
}

func (x model) rate(num int) (int, bool) {
	theirs, ours, ok := x.lengths()
	if !ok || theirs == 0 || ours == 0 || num < 1 || num > mostOf {
		return num, false
	}
	return num * ours / theirs, true
}

// times: some of all sides of the last beat, and of the clock's end.
func (x model) times() []int {
	out := []int{0, 1, 255, 256, 32767, 32768, 65534, 65535}
	if len(x) == 0 {
		return out
	}
	last := x[len(x)-1]
	for _, far := range []int{-32768, -1, 0, 1, 4000} {
		out = append(out, (last.mark+far+round)%round, (last.global+far+round)%round)
	}
	return out
}

var nums = []int{math.MinInt, -mostOf, -1, 0, 1, 2, 1024, 16384, mostOf - 1, mostOf, mostOf + 1, math.MaxInt}

func same(t *testing.T, what string, g *Global, x model) {
	t.Helper()
	if got, want := g.Steady(), x.steady(); got != want {
		t.Fatalf("P11.1: %s: Steady: %d, want %d", what, got, want)
	}
	for _, now := range x.times() {
		if got, want := int(g.At(uint16(now))), x.at(now); got != want {
			t.Fatalf("P11.1: %s: At(%d): %d, want %d", what, now, got, want)
		}
	}
	theirs, ours, ok := x.lengths()
	if a, b, there := g.Lengths(); a != theirs || b != ours || there != ok {
		t.Fatalf("P11.2: %s: Lengths: %d, %d, %v, want %d, %d, %v", what, a, b, there, theirs, ours, ok)
	}
	for _, num := range nums {
		want, fine := x.rate(num)
		if got, there := g.Rate(num); got != want || there != fine {
			t.Fatalf("P11.2: %s: Rate(%d): %d, %v, want %d, %v", what, num, got, there, want, fine)
		}
	}
}

// tell: each beat is a call of its own.
func tell(g *Global, all ...told) *Global {
	for _, b := range all {
		g.Beat(b.who, uint16(b.global), uint16(b.mark), b.disc)
	}
	return g
}

func forget(g *Global) *Global {
	g.Forget()
	return g
}

func steadyIs(t *testing.T, what string, g *Global, want int) {
	t.Helper()
	if got := g.Steady(); got != want {
		t.Fatalf("P11.1: %s: Steady: %d, want %d", what, got, want)
	}
}

func lengthsAre(t *testing.T, what string, g *Global, theirs, ours int, ok bool) {
	t.Helper()
	if a, b, there := g.Lengths(); a != theirs || b != ours || there != ok {
		t.Fatalf("P11.2: %s: Lengths: %d, %d, %v, want %d, %d, %v", what, a, b, there, theirs, ours, ok)
	}
}

// nothing: what is told of no beat, at all times of the clock.
func nothing(t *testing.T, what string, g *Global) {
	t.Helper()
	for now := range round {
		if got := g.At(uint16(now)); int(got) != now {
			t.Fatalf("P11.1: %s: At(%d): %d", what, now, got)
		}
	}
	steadyIs(t, what, g, 0)
	lengthsAre(t, what, g, 0, 0, false)
	for _, num := range nums {
		if got, ok := g.Rate(num); got != num || ok {
			t.Fatalf("P11.2: %s: Rate(%d): %d, %v", what, num, got, ok)
		}
	}
}

func TestNew(t *testing.T) {
	one, two := New(), New()
	nothing(t, "a new one", one)
	tell(one, told{3, 500, 40, false}, told{3, 900, 430, false})
	nothing(t, "another one that was made alike", two)
	nothing(t, "one that is made later", New())
}

func TestForget(t *testing.T) {
	for _, x := range []struct {
		g    *Global
		what string
	}{
		{New(), "ahead of everything"},
		{tell(New(), told{0, 9, 5, false}), "behind a beat"},
		{tell(New(), told{0, 9, 5, true}), "behind a beat with disc"},
		{tell(New(), told{2, 9, 5, false}, told{2, 19, 16, false}), "behind two beats"},
		{tell(New(), told{2, 9, 5, false}, told{1, 19, 16, false}), "behind two of two"},
		{forget(tell(New(), told{2, 9, 5, false})), "behind another forget"},
	} {
		what := "forget " + x.what
		nothing(t, what, forget(x.g))
		nothing(t, what+", and once more", forget(x.g))
		for _, who := range []int{0, 2} {
			c := x.g.Copy()
			row := model{{who, 100, 200, false}}
			same(t, what+", and a beat", tell(c, row...), row)
			steadyIs(t, what+", and a beat", c, 1)
			next := told{who, 130, 250, false}
			same(t, what+", and another one", tell(c, next), append(row, next))
			lengthsAre(t, what+", and another one", c, 30, 50, true)
		}
	}
}

func TestExample(t *testing.T) {
	g := New()
	g.Beat(0, 100, 90, false)
	if got := g.At(95); got != 105 {
		t.Fatalf("P11.1: the chapter's example: %d", got)
	}
}

func TestFirstBeat(t *testing.T) {
	for _, disc := range []bool{false, true} {
		for _, who := range []int{-1, 0, 1} {
			what := fmt.Sprint("a first beat of ", who, ", ", disc)
			b := told{who, 700, 65000, disc}
			g := tell(New(), b)
			same(t, what, g, model{b})
			steadyIs(t, what, g, 1)
			lengthsAre(t, what, g, 0, 0, false)
			next := told{who, 900, 65300, false}
			same(t, what+", a second one", tell(g, next), model{b, next})
			steadyIs(t, what+", a second one", g, 2)
			lengthsAre(t, what+", a second one", g, 200, 300, true)
		}
	}
}

func TestAt(t *testing.T) {
	for _, x := range []struct{ global, mark, now, want uint16 }{
		{100, 90, 95, 105}, {100, 90, 90, 100}, {100, 90, 89, 99}, {100, 90, 0, 10}, {100, 90, 65535, 9}, {100, 90, 65525, 65535}, {100, 90, 65526, 0},
		{90, 100, 95, 85}, {90, 100, 100, 90}, {90, 100, 10, 0}, {90, 100, 9, 65535}, {90, 100, 0, 65526}, {90, 100, 65535, 65525},
		{5, 65530, 65530, 5}, {5, 65530, 65535, 10}, {5, 65530, 0, 11}, {5, 65530, 65529, 4}, {5, 65530, 65524, 65535},
		{65530, 5, 5, 65530}, {65530, 5, 10, 65535}, {65530, 5, 11, 0}, {65530, 5, 4, 65529}, {65530, 5, 65535, 65524},
		{0, 0, 7, 7}, {9, 9, 65535, 65535}, {65535, 65535, 0, 0}, {65535, 0, 0, 65535}, {65535, 0, 1, 0}, {0, 65535, 65535, 0}, {0, 65535, 0, 1},
		{32768, 0, 0, 32768}, {32768, 0, 32768, 0}, {0, 32768, 32768, 0}, {0, 32768, 32767, 65535}, {32767, 32768, 32768, 32767},
	} {
		for _, disc := range []bool{false, true} {
			g := New()
			g.Beat(1, x.global, x.mark, disc)
			if got := g.At(x.now); got != x.want {
				t.Errorf("P11.1: %d at %d: At(%d): %d, want %d", x.global, x.mark, x.now, got, x.want)
			}
		}
	}
}

// All times of the clock, global ahead of mark, behind it, and on the other side of the end.
func TestAtGoesRound(t *testing.T) {
	for _, x := range []struct{ global, mark int }{
		{0, 0}, {100, 90}, {90, 100}, {0, 65535}, {65535, 0}, {65530, 5}, {5, 65530}, {32768, 0}, {0, 32768}, {40000, 20000},
	} {
		g := tell(New(), told{4, x.global, x.mark, false})
		for far := range round {
			if got, want := int(g.At(uint16(x.mark+far))), (x.global+far)%round; got != want {
				t.Fatalf("P11.1: %d at %d, %d on: %d, want %d", x.global, x.mark, far, got, want)
			}
		}
	}
}

// The last beat alone counts for At, whosever it is.
func TestAtOfTheLastBeat(t *testing.T) {
	g := New()
	for i, b := range []told{
		{1, 100, 90, false}, {1, 200, 195, false}, {1, 200, 195, false}, {2, 50, 300, false}, {1, 400, 400, false}, {1, 7, 65000, true}, {1, 65000, 7, false}, {0, 0, 0, false}, {0, 1, 2, true},
	} {
		tell(g, b)
		for _, now := range []int{0, 95, 300, 65535} {
			if got, want := int(g.At(uint16(now))), (now+b.global-b.mark+round)%round; got != want {
				t.Fatalf("P11.1: row %d: At(%d): %d, want %d", i, now, got, want)
			}
		}
	}
}

func TestSteady(t *testing.T) {
	g, x := New(), model{}
	for i, row := range []struct {
		who  int
		disc bool
		want int
	}{
		{1, false, 1}, {1, false, 2}, {1, false, 3},
		{2, false, 1}, {2, false, 2}, // of another one
		{1, false, 1}, {1, false, 2}, {1, false, 3}, {1, false, 4}, // of the first one again
		{1, true, 1}, {1, false, 2}, {1, false, 3}, // with disc in the middle
		{1, true, 1}, {1, true, 1}, {1, true, 1}, {1, false, 2},
		{0, true, 1}, {0, false, 2}, {0, true, 1}, {3, false, 1}, {3, false, 2},
		{2, false, 1}, {3, false, 1}, {2, false, 1}, {3, true, 1}, {2, true, 1}, {2, false, 2},
	} {
		b := told{row.who, 100 * i, 110*i + 7, row.disc}
		x = append(x, b)
		tell(g, b)
		steadyIs(t, fmt.Sprint("row ", i), g, row.want)
		same(t, fmt.Sprint("row ", i), g, x)
	}
}

func TestSteadyIsHeld(t *testing.T) {
	for _, disc := range []bool{false, true} {
		g, last := New(), told{}
		for i := range 2*longest + 50 {
			last = told{6, i * 90 % round, i * 100 % round, disc && i == 0}
			tell(g, last)
			steadyIs(t, fmt.Sprint("beat ", i), g, min(i+1, longest))
			if i > 0 {
				lengthsAre(t, fmt.Sprint("beat ", i), g, 90, 100, true)
			}
		}
		c := g.Copy()
		steadyIs(t, "a copy of what is held", c, longest)
		steadyIs(t, "with disc behind it", tell(g, told{6, 1, 1, true}), 1)
		steadyIs(t, "another one's behind it", tell(c, told{5, 1, 1, false}), 1)
		steadyIs(t, "and one more", tell(c, told{5, 2, 2, false}), 2)
	}
}

func TestSteadyOfManyAtTheEdge(t *testing.T) {
	for _, x := range []struct{ beats, want int }{{1, 1}, {2, 2}, {3, 3}, {255, 255}, {256, 256}, {257, 257}, {999, 999}, {1000, 1000}, {1001, 1000}, {1002, 1000}, {70000, 1000}} {
		g := New()
		for range x.beats {
			tell(g, told{1, 2, 3, false})
		}
		steadyIs(t, fmt.Sprint(x.beats, " beats"), g, x.want)
	}
}

// Whoever they are: as numbers alike they are one, else they are two, however near.
func TestEveryWho(t *testing.T) {
	whos := []int{math.MinInt, math.MinInt + 1, -1 << 32, -1<<32 + 1, math.MinInt32, -round, -256, -2, -1, 0, 1, 2, 7, 8, 255, 256, 257, round - 1, round, round + 1, math.MaxInt32, 1 << 32, 1<<32 + 1, math.MaxInt - 1, math.MaxInt}
	for _, a := range whos {
		for _, b := range whos {
			row := model{{a, 10, 20, false}, {a, 30, 50, false}, {b, 60, 70, false}, {b, 100, 120, false}}
			what := fmt.Sprint("of ", a, ", of ", b)
			g := New()
			for i := range row {
				tell(g, row[i])
				same(t, what, g, row[:i+1])
			}
			want := 2
			if a == b {
				want = 4
			}
			steadyIs(t, what, g, want)
		}
	}
}

func TestLengths(t *testing.T) {
	for _, x := range []struct {
		one, two     told
		theirs, ours int
	}{
		{told{1, 100, 90, false}, told{1, 300, 280, false}, 200, 190},
		{told{1, 100, 90, true}, told{1, 300, 280, false}, 200, 190},
		{told{1, 65500, 90, false}, told{1, 64, 280, false}, 100, 190},
		{told{1, 100, 65500, false}, told{1, 300, 0, false}, 200, 36},
		{told{1, 65535, 65535, false}, told{1, 0, 0, false}, 1, 1},
		{told{1, 0, 0, false}, told{1, 65535, 65535, false}, 65535, 65535},
		{told{1, 9, 9, false}, told{1, 8, 10, false}, 65535, 1},
		{told{1, 9, 9, false}, told{1, 10, 8, false}, 1, 65535},
		{told{1, 9, 9, false}, told{1, 9, 9, false}, 0, 0},
		{told{1, 9, 9, false}, told{1, 9, 12, false}, 0, 3},
		{told{1, 9, 9, false}, told{1, 12, 9, false}, 3, 0},
		{told{1, 0, 32768, false}, told{1, 32768, 0, false}, 32768, 32768},
		{told{0, 0, 0, false}, told{0, 7, 8, false}, 7, 8},
	} {
		what := fmt.Sprintf("%v, %v", x.one, x.two)
		g := tell(New(), x.one)
		lengthsAre(t, what+": at Steady 1", g, 0, 0, false)
		lengthsAre(t, what+": at Steady 2", tell(g, x.two), x.theirs, x.ours, true)
		lengthsAre(t, what+": once more", g, x.theirs, x.ours, true)
	}
}

// A length is of two beats of one run: none goes over from one run into the next.
func TestLengthsOfOneRun(t *testing.T) {
	g := tell(New(), told{1, 100, 100, false}, told{1, 200, 210, false})
	lengthsAre(t, "two of one", g, 100, 110, true)
	lengthsAre(t, "a third one", tell(g, told{1, 350, 370, false}), 150, 160, true)
	lengthsAre(t, "with disc", tell(g, told{1, 400, 400, true}), 0, 0, false)
	lengthsAre(t, "behind it", tell(g, told{1, 450, 460, false}), 50, 60, true)
	lengthsAre(t, "another one's", tell(g, told{2, 500, 500, false}), 0, 0, false)
	lengthsAre(t, "and its next one", tell(g, told{2, 570, 580, false}), 70, 80, true)
	lengthsAre(t, "another one's with disc", tell(g, told{1, 600, 600, true}), 0, 0, false)
	lengthsAre(t, "and its next one", tell(g, told{1, 601, 602, false}), 1, 2, true)
}

func TestRate(t *testing.T) {
	for _, x := range []struct {
		theirs, ours, num, want int
		ok                      bool
	}{
		{100, 110, 1024, 1126, true}, {110, 100, 1024, 930, true}, {100, 100, 1024, 1024, true}, {3, 2, 2, 1, true}, {3, 5, 2, 3, true}, {3, 1, 2, 0, true}, {65535, 65534, 1, 0, true}, {65535, 1, mostOf, 15, true},
		{1, 1, 1, 1, true}, {1, 65535, 1, 65535, true}, {1, 65535, mostOf, 65535000000, true}, {2, 65535, mostOf, 32767500000, true}, {65535, 65535, mostOf, mostOf, true}, {32768, 32769, mostOf, 1000030, true},
		{100, 110, 0, 0, false}, {100, 110, 1, 1, true}, {100, 110, mostOf, 1100000, true}, {100, 110, mostOf + 1, mostOf + 1, false}, {100, 110, mostOf - 1, 1099998, true},
		{100, 110, -1, -1, false}, {100, 110, -1024, -1024, false}, {100, 110, math.MinInt, math.MinInt, false}, {100, 110, math.MaxInt, math.MaxInt, false}, {100, 110, 1<<32 + 5, 1<<32 + 5, false},
		{0, 110, 1024, 1024, false}, {100, 0, 1024, 1024, false}, {0, 0, 1024, 1024, false}, {0, 110, 0, 0, false}, {100, 0, -3, -3, false}, {0, 1, 1, 1, false}, {1, 0, 1, 1, false},
	} {
		for _, from := range []int{0, 500, 65535} {
			g := tell(New(), told{3, from, 65000, false}, told{3, from + x.theirs, 65000 + x.ours, false})
			if got, ok := g.Rate(x.num); got != x.want || ok != x.ok {
				t.Errorf("P11.2: %d of theirs, %d of ours: Rate(%d): %d, %v, want %d, %v", x.theirs, x.ours, x.num, got, ok, x.want, x.ok)
			}
		}
	}
}

func TestRateWithoutLengths(t *testing.T) {
	for what, g := range map[string]*Global{
		"a new one":       New(),
		"one beat":        tell(New(), told{1, 30, 40, false}),
		"one with disc":   tell(New(), told{1, 30, 40, false}, told{1, 60, 80, true}),
		"another one's":   tell(New(), told{1, 30, 40, false}, told{2, 60, 80, false}),
		"forgotten":       forget(tell(New(), told{1, 30, 40, false}, told{1, 60, 80, false})),
		"one behind that": tell(forget(tell(New(), told{1, 30, 40, false}, told{1, 60, 80, false})), told{1, 90, 120, false}),
	} {
		for _, num := range nums {
			if got, ok := g.Rate(num); got != num || ok {
				t.Errorf("P11.2: %s: Rate(%d): %d, %v", what, num, got, ok)
			}
		}
	}
}

// Of all lengths of theirs against one of ours: more ticks to a unit for who is faster, fewer for who is slower, and no faster one has fewer than a slower one.
func TestFasterCountsMore(t *testing.T) {
	const num, ours = 16384, 4000
	was := math.MaxInt
	for theirs := 1; theirs < round; theirs++ {
		g := tell(New(), told{1, 9, 60000, false}, told{1, 9 + theirs, 60000 + ours, false})
		got, ok := g.Rate(num)
		right := theirs == ours && got == num || theirs < ours && got > num || theirs > ours && got < num
		if !ok || !right || got > was {
			t.Fatalf("P11.3: %d of theirs, %d of ours: Rate(%d): %d, %v", theirs, ours, num, got, ok)
		}
		was = got
	}
}

// quartz: a clock of four ticks a step, and so many more in each hundred steps, spread over them.
type quartz struct {
	c     *clock.Clock
	more  int
	steps int
}

func (q *quartz) step() {
	was := q.steps * q.more / 100
	q.steps++
	q.c.Tick(4 + q.steps*q.more/100 - was)
}

// With clocks: a node that ticks faster than the one that beats, or slower, has the beats' units once it has taken the rate over.
func TestWithClocks(t *testing.T) {
	const unit, cycle = 8, 2000 // ticks; steps
	for _, more := range []int{-40, -20, -5, 0, 5, 20, 40} {
		leader, node, g := &quartz{c: clock.New(unit)}, &quartz{c: clock.New(unit), more: more}, New()
		for beat := range 3 {
			g.Beat(0, leader.c.Time(), node.c.Time(), beat == 0)
			for range cycle {
				leader.step()
				node.step()
			}
		}
		theirs, ours, _ := g.Lengths()
		num, den := node.c.Rate()
		rate, ok := g.Rate(num)
		if !ok || (rate > num) != (more > 0) || (rate < num) != (more < 0) || (ours > theirs) != (more > 0) {
			t.Fatalf("P11.3: %d more in 400: %d, %d; %d of %d, %v", more, theirs, ours, rate, num, ok)
		}
		if !node.c.SetRate(rate, den) {
			t.Fatalf("P11.3: %d more in 400: no rate: %d", more, rate)
		}
		g.Beat(0, leader.c.Time(), node.c.Time(), false)
		for range cycle {
			leader.step()
			node.step()
			if far := clock.Since(leader.c.Time()-3, g.At(node.c.Time())); far > 6 {
				t.Fatalf("P11.3: %d more in 400: at %d the leader, at %d the node", more, leader.c.Time(), g.At(node.c.Time()))
			}
		}
	}
}

func TestCopy(t *testing.T) {
	nothing(t, "a copy of a new one", New().Copy())
	nothing(t, "a copy behind a forget", forget(tell(New(), told{1, 5, 9, false}, told{1, 15, 29, false})).Copy())

	first := model{{7, 100, 65500, true}}
	g := tell(New(), first...)
	c := g.Copy()
	same(t, "a copy behind one beat", c, first)
	one, two := told{7, 200, 80, false}, told{7, 300, 90, false}
	tell(g, one)
	same(t, "what is copied goes on", g, model{first[0], one})
	same(t, "its copy stays", c, first)
	tell(c, two)
	same(t, "the copy goes on", c, model{first[0], two})
	same(t, "what was copied stays", g, model{first[0], one})

	d := c.Copy()
	same(t, "a copy's copy", d, model{first[0], two})
	nothing(t, "the copy is forgotten", forget(c))
	same(t, "what was copied isn't", g, model{first[0], one})
	same(t, "nor is a copy's copy", d, model{first[0], two})
	step := told{7, 1000, 2000, true}
	same(t, "with disc", tell(g, step), model{first[0], one, step})
	same(t, "a copy's copy stays", d, model{first[0], two})
	other := told{-7, 1, 2, false}
	same(t, "another one's", tell(d, other), model{first[0], two, other})
	same(t, "what was copied stays", g, model{first[0], one, step})
	nothing(t, "what was copied is forgotten", forget(g))
	same(t, "a copy's copy isn't", d, model{first[0], two, other})
}

// Asking changes nothing.
func TestAsking(t *testing.T) {
	row := model{{1, 100, 90, false}, {1, 300, 280, false}}
	g := tell(New(), row...)
	for range 3 {
		same(t, "asked again", g, row)
	}
	next := told{1, 450, 440, false}
	same(t, "and told again", tell(g, next), append(row, next))
	steadyIs(t, "and told again", g, 3)
}

// Whatever is told in whatever order, with copies between that take the place of what they were made of.
func TestAnyOrder(t *testing.T) {
	r := rand.New(rand.NewSource(111))
	pick := func() told {
		times := []int{0, 1, round - 1, r.Intn(round), r.Intn(round)}
		return told{r.Intn(3) * r.Intn(2), times[r.Intn(5)], times[r.Intn(5)], r.Intn(6) == 0}
	}
	for range 300 {
		g, x := New(), model{}
		for step := range 100 {
			switch r.Intn(10) {
			case 0:
				g.Forget()
				x = nil
			case 1:
				was := g
				g = g.Copy()
				if r.Intn(2) == 0 {
					forget(was)
				}
				tell(was, pick())
			default:
				b := pick()
				tell(g, b)
				x = append(x, b)
			}
			same(t, fmt.Sprint("step ", step), g, x)
		}
	}
}
