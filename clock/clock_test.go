package clock

import (
	"fmt"
	"math"
	"math/rand"
	"testing"

	"ostinato/api"
)

// The limits and numbers of the document, written out.
const (
	mostUnit  = 64
	mostTicks = 8
	round     = 1 << 16
)

// view: all that a clock tells.
type view struct{ time, part, num, den int }

func viewOf(c *Clock) view {
	num, den := c.Rate()
	return view{int(c.Time()), c.Part(), num, den}
}

func sameView(t *testing.T, what string, c *Clock, want view) {
	t.Helper()
	if got := viewOf(c); got != want {
		t.Fatalf("%s: %+v, want %+v", what, got, want)
	}
}

// tick: each number is a call of its own.
func tick(c *Clock, ns ...int) *Clock {
	for _, n := range ns {
		c.Tick(n)
	}
	return c
}

// run: as many ticks, in as few calls as there may be.
func run(c *Clock, ticks int) *Clock {
	for ; ticks > 0; ticks -= mostTicks {
		c.Tick(min(ticks, mostTicks))
	}
	return c
}

func set(t *testing.T, what string, c *Clock, num, den int, want bool) {
	t.Helper()
	if got := c.SetRate(num, den); got != want {
		t.Fatalf("%s: SetRate(%d, %d): %v, want %v", what, num, den, got, want)
	}
}

func TestLimits(t *testing.T) {
	if api.MaxUnit != mostUnit || api.MaxTicks != mostTicks {
		t.Fatal("P9.1: other limits than the tests have")
	}
}

func TestNew(t *testing.T) {
	for _, x := range []struct{ unit, num int }{
		{math.MinInt, 256}, {-65, 256}, {-1, 256}, {0, 256}, {1, 256}, {2, 512}, {3, 768}, {4, 1024}, {63, 16128}, {64, 16384},
		{65, 16384}, {66, 16384}, {128, 16384}, {256, 16384}, {257, 16384}, {65536, 16384}, {65537, 16384}, {1 << 32, 16384}, {math.MaxInt, 16384},
	} {
		sameView(t, fmt.Sprint("P9.1: New of ", x.unit), New(x.unit), view{0, 0, x.num, 256})
	}
	for unit := 1; unit <= mostUnit; unit++ {
		c := run(New(unit), unit-1)
		sameView(t, fmt.Sprint("P9.1: a tick less than a unit of ", unit), c, view{0, (unit - 1) * 256, unit * 256, 256})
		sameView(t, fmt.Sprint("P9.1: a unit of ", unit), tick(c, 1), view{1, 0, unit * 256, 256})
	}
	one, two := New(5), New(5)
	tick(one, 7)
	set(t, "P9.1: one of two", one, 1200, 256, true)
	sameView(t, "P9.1: two that were made alike", two, view{0, 0, 1280, 256})
}

func TestTick(t *testing.T) {
	for i, x := range []struct {
		unit       int
		ticks      []int
		time, part int
	}{
		{4, []int{}, 0, 0},
		{4, []int{4}, 1, 0}, // the chapter's example
		{4, []int{1, 1, 1, 1}, 1, 0},
		{4, []int{3}, 0, 768},
		{4, []int{5}, 1, 256},
		{4, []int{3, 3}, 1, 512},
		{4, []int{7, 1}, 2, 0},
		{4, []int{0}, 0, 0},
		{4, []int{3, 0, 0}, 0, 768},
		{4, []int{3, -1, math.MinInt}, 0, 768},
		{4, []int{3, -1, 1}, 1, 0},
		{4, []int{-4, 4}, 1, 0},
		{4, []int{8}, 2, 0},
		{4, []int{9}, 2, 0},
		{4, []int{math.MaxInt}, 2, 0},
		{4, []int{256}, 2, 0},
		{4, []int{1 << 32}, 2, 0},
		{1, []int{1}, 1, 0},
		{1, []int{7}, 7, 0},
		{1, []int{8}, 8, 0},
		{1, []int{9}, 8, 0},
		{1, []int{8, 8, 9, 100}, 32, 0},
		{3, []int{8}, 2, 512},
		{3, []int{8, 8, 8}, 8, 0},
		{5, []int{8}, 1, 768},
		{7, []int{6}, 0, 1536},
		{7, []int{6, 8}, 2, 0},
		{8, []int{7}, 0, 1792},
		{8, []int{8}, 1, 0},
		{8, []int{7, 8}, 1, 1792},
		{64, []int{8, 8, 8, 8, 8, 8, 8, 7}, 0, 16128},
		{64, []int{8, 8, 8, 8, 8, 8, 8, 8}, 1, 0},
		{64, []int{8, 8, 8, 8, 8, 8, 8, 7, 8}, 1, 1792},
	} {
		sameView(t, fmt.Sprint("P9.1: row ", i), tick(New(x.unit), x.ticks...), view{x.time, x.part, x.unit * 256, 256})
	}
}

func TestTickAtRates(t *testing.T) {
	for i, x := range []struct {
		unit, num, ticks int
		time, part       int
	}{
		{1, 224, 1, 1, 32},
		{1, 224, 7, 8, 0}, // seven ticks are eight such units
		{1, 224, 8, 9, 32},
		{1, 288, 1, 0, 256},
		{1, 288, 2, 1, 224},
		{1, 288, 9, 8, 0},
		{4, 896, 3, 0, 768},
		{4, 896, 4, 1, 128},
		{4, 896, 7, 2, 0},
		{4, 1152, 4, 0, 1024},
		{4, 1152, 5, 1, 128},
		{4, 1152, 9, 2, 0},
		{4, 1023, 4, 1, 1},
		{4, 1025, 4, 0, 1024},
		{4, 1025, 5, 1, 255},
		{64, 14336, 56, 1, 0},
		{64, 14337, 56, 0, 14336},
		{64, 18432, 71, 0, 18176},
		{64, 18432, 72, 1, 0},
		{64, 18431, 72, 1, 1},
	} {
		c := New(x.unit)
		what := fmt.Sprint("P9.1: row ", i)
		set(t, what, c, x.num, 256, true)
		sameView(t, what+", ahead of the ticks", c, view{0, 0, x.num, 256})
		sameView(t, what, run(c, x.ticks), view{x.time, x.part, x.num, 256})
	}
}

// full: a clock whose part is as great as it may be at this rate.
func full(t *testing.T, unit, num int) *Clock {
	t.Helper()
	c := New(unit)
	set(t, "P9.1: full", c, unit*288, 256, true)
	set(t, "P9.1: full", run(c, unit), unit*256, 256, true) // a part of all of a unit: what is beyond goes
	set(t, "P9.1: full", c, num, 256, true)
	for i := 0; i < 10 && c.Part() != num-1; i++ {
		tick(c, 1)
	}
	if c.Part() != num-1 {
		t.Fatalf("P9.1: unit %d, rate %d: part %d never was full", unit, num, c.Part())
	}
	return c
}

// The most ticks upon a full part: the greatest sum that there is.
func TestTickAtTheMost(t *testing.T) {
	for _, x := range []struct{ unit, num, units, part int }{
		{1, 224, 10, 31},
		{1, 256, 8, 255},
		{1, 288, 8, 31},
		{64, 14336, 1, 2047},
		{64, 16384, 1, 2047},
		{64, 18432, 1, 2047},
	} {
		c := full(t, x.unit, x.num)
		from := int(c.Time())
		sameView(t, fmt.Sprintf("P9.1: unit %d, rate %d", x.unit, x.num), tick(c, 8), view{from + x.units, x.part, x.num, 256})
	}
}

// Many small ticks are as one great one, wherever the clock stands.
func TestSmallAsGreat(t *testing.T) {
	for unit := 1; unit <= mostUnit; unit++ {
		for _, num := range []int{unit * 224, unit*256 - 1, unit * 256, unit*256 + 1, unit * 288} {
			c := New(unit)
			set(t, "P9.2", c, num, 256, true)
			for ahead := range 3 * unit {
				for n := 1; n <= mostTicks; n++ {
					great, small, mixed := c.Copy(), c.Copy(), c.Copy()
					tick(great, n)
					for range n {
						tick(small, 1)
					}
					tick(mixed, n/2, 0, -3, n-n/2)
					what := fmt.Sprintf("P9.2: unit %d, rate %d, %d ticks ahead, %d ticks", unit, num, ahead, n)
					sameView(t, what, small, viewOf(great))
					sameView(t, what+", mixed", mixed, viewOf(great))
				}
				tick(c, 1)
			}
		}
	}
}

func TestTimeGoesRound(t *testing.T) {
	c := run(New(1), round-1)
	sameView(t, "P9.1: the last time", c, view{round - 1, 0, 256, 256})
	sameView(t, "P9.1: round the end", tick(c, 1), view{0, 0, 256, 256})
	sameView(t, "P9.1: on", tick(c, 8), view{8, 0, 256, 256})
	c = run(New(1), round-3)
	sameView(t, "P9.1: across the end at once", tick(c, 8), view{5, 0, 256, 256})
	c = run(New(3), 3*round-1)
	sameView(t, "P9.1: a tick ahead of the end", c, view{round - 1, 512, 768, 256})
	sameView(t, "P9.1: the end, and a part", tick(c, 3), view{0, 512, 768, 256})
	c = run(New(1), 2*round+7)
	sameView(t, "P9.1: twice round", c, view{7, 0, 256, 256})
	c = run(New(1), round-1)
	set(t, "P9.1: a rate at the last time", c, 224, 256, true)
	sameView(t, "P9.1: a rate at the last time", c, view{round - 1, 0, 224, 256})
	sameView(t, "P9.1: round the end at a rate", tick(c, 8), view{8, 32, 224, 256})
}

func TestRateBounds(t *testing.T) {
	for unit := 1; unit <= mostUnit; unit++ {
		for _, x := range []struct {
			num int
			ok  bool
		}{
			{unit*256 - unit*32 - 1, false}, {unit*256 - unit*32, true}, {unit*256 - unit*32 + 1, true}, {unit*256 - 1, true}, {unit * 256, true},
			{unit*256 + 1, true}, {unit*256 + unit*32 - 1, true}, {unit*256 + unit*32, true}, {unit*256 + unit*32 + 1, false},
			{0, false}, {-1, false}, {-unit * 256, false}, {unit, false}, {unit * 32, false}, {unit * 512, false}, {unit*256 + round, false}, {unit*256 - round, false}, {unit*256 + 1<<32, false},
			{math.MinInt, false}, {math.MinInt + unit*256, false}, {math.MinInt + unit*288, false}, {math.MaxInt, false}, {math.MaxInt - unit*256, false},
		} {
			c := tick(New(unit), 5)
			was := viewOf(c)
			what := fmt.Sprint("P9.1: unit ", unit)
			set(t, what, c, x.num, 256, x.ok)
			if want := (view{was.time, min(was.part, x.num-1), x.num, 256}); x.ok {
				sameView(t, fmt.Sprint(what, ", rate ", x.num), c, want)
				continue
			}
			sameView(t, fmt.Sprint(what, ", refused rate ", x.num), c, was)
			sameView(t, what+": on from a refused rate", tick(c, 8), viewOf(tick(New(unit), 5, 8)))
		}
	}
}

// A unit's bounds are those of the clock as it was made, not of the rate that it has by now.
func TestRateBoundsStay(t *testing.T) {
	c := New(4)
	set(t, "P9.1: down", c, 896, 256, true)
	set(t, "P9.1: further down", c, 895, 256, false)
	set(t, "P9.1: from down to up", c, 1152, 256, true)
	set(t, "P9.1: further up", c, 1153, 256, false)
	set(t, "P9.1: from up to down", c, 896, 256, true)
	sameView(t, "P9.1: the last one that was taken", c, view{0, 0, 896, 256})
	c = New(math.MaxInt)
	set(t, "P9.1: of a unit that was held", c, 64*288, 256, true)
	set(t, "P9.1: of a unit that was held", c, 64*288+1, 256, false)
	set(t, "P9.1: of a unit that was held", c, 64*224-1, 256, false)
	c = New(math.MinInt)
	set(t, "P9.1: of a unit that was held", c, 224, 256, true)
	set(t, "P9.1: of a unit that was held", c, 223, 256, false)
}

func TestOtherDen(t *testing.T) {
	for _, den := range []int{math.MinInt, -256, -1, 0, 1, 2, 128, 255, 257, 512, 1024, round + 256, 1<<32 + 256, math.MaxInt} {
		for _, num := range []int{1024, 900, 1152, 4 * den, 0} {
			c := tick(New(4), 3)
			set(t, "P9.1: another den", c, num, den, false)
			sameView(t, fmt.Sprint("P9.1: refused den ", den), c, view{0, 768, 1024, 256})
			set(t, "P9.1: a right one", c, 1100, 256, true)
			set(t, "P9.1: another den", c, num, den, false)
			sameView(t, fmt.Sprint("P9.1: refused den ", den, ", of a rate that was set"), c, view{0, 768, 1100, 256})
			sameView(t, fmt.Sprint("P9.1: on from refused den ", den), tick(c, 2), view{1, 180, 1100, 256})
		}
	}
}

func TestPartIsHeld(t *testing.T) {
	for i, x := range []struct {
		first, ticks, num int
		part              int
	}{ // of a unit of 4
		{1152, 4, 900, 899},
		{1152, 4, 1023, 1022},
		{1152, 4, 1024, 1023}, // a part as great as the rate is a unit, were it ticks
		{1152, 4, 1025, 1024},
		{1152, 4, 1026, 1024},
		{1152, 4, 1152, 1024},
		{1152, 4, 896, 895},
		{1152, 3, 896, 768},
		{1024, 3, 896, 768},
		{896, 3, 896, 768},
		{1024, 0, 896, 0},
	} {
		c := New(4)
		what := fmt.Sprint("P9.1: row ", i)
		set(t, what, c, x.first, 256, true)
		tick(c, x.ticks)
		set(t, what, c, x.num, 256, true)
		sameView(t, what, c, view{0, x.part, x.num, 256})
		set(t, what, c, 1152, 256, true)
		sameView(t, what+": what is gone doesn't come back", c, view{0, x.part, 1152, 256})
	}
	c := New(4)
	set(t, "P9.1: full", c, 1152, 256, true)
	tick(c, 4)
	set(t, "P9.1: a refused rate that is less", c, 895, 256, false)
	set(t, "P9.1: a rate that is less, of another den", c, 900, 255, false)
	sameView(t, "P9.1: a refused rate holds no part", c, view{0, 1024, 1152, 256})
	set(t, "P9.1: full", c, 900, 256, true)
	sameView(t, "P9.1: no tick, no unit", tick(c, 0), view{0, 899, 900, 256})
	sameView(t, "P9.1: a tick upon a part that was held", tick(c, 1), view{1, 255, 900, 256})
}

func TestSince(t *testing.T) {
	for _, x := range []struct {
		a, b uint16
		want int
	}{
		{0, 0, 0}, {1, 1, 0}, {32768, 32768, 0}, {65535, 65535, 0},
		{5, 9, 4}, {9, 5, 65532}, {0, 1, 1}, {1, 0, 65535},
		{65535, 0, 1}, {0, 65535, 65535}, {65535, 1, 2}, {1, 65535, 65534}, {65530, 4, 10}, {4, 65530, 65526},
		{0, 32767, 32767}, {0, 32768, 32768}, {32768, 0, 32768}, {32767, 0, 32769}, {100, 32868, 32768}, {40000, 100, 25636},
	} {
		if got := Since(x.a, x.b); got != x.want {
			t.Errorf("P9.1: Since(%d, %d): %d, want %d", x.a, x.b, got, x.want)
		}
	}
	for from := 0; from < round; from += 911 {
		for far := 0; far < round; far += 577 {
			if got := Since(uint16(from), uint16(from+far)); got != far {
				t.Fatalf("P9.1: %d on from %d: %d", far, from, got)
			}
		}
	}
}

// What a clock's time went on by, round the end too, is what Since tells.
func TestSinceOfAClock(t *testing.T) {
	c := run(New(1), round-20)
	from := c.Time()
	for far := range 40 {
		if got := Since(from, c.Time()); got != far {
			t.Fatalf("P9.1: %d, want %d", got, far)
		}
		tick(c, 1)
	}
}

func TestCopy(t *testing.T) {
	c := tick(New(4), 6)
	set(t, "P9.1: first", c, 1100, 256, true)
	was := view{1, 512, 1100, 256}
	o := c.Copy()
	sameView(t, "P9.1: a copy", o, was)
	sameView(t, "P9.1: what is copied", c, was)
	tick(c, 3)
	set(t, "P9.1: first", c, 1150, 256, true)
	sameView(t, "P9.1: its copy stays", o, was)
	sameView(t, "P9.1: it goes on", c, view{2, 180, 1150, 256})
	tick(o, 2)
	set(t, "P9.1: copy", o, 950, 256, true)
	sameView(t, "P9.1: the copy goes on", o, view{1, 949, 950, 256})
	sameView(t, "P9.1: what was copied stays", c, view{2, 180, 1150, 256})
	third := o.Copy()
	sameView(t, "P9.1: a copy's copy", third, view{1, 949, 950, 256})
	tick(third, 1)
	sameView(t, "P9.1: a copy whose copy goes on", o, view{1, 949, 950, 256})
	set(t, "P9.1: a copy has its unit", third, 896, 256, true)
	set(t, "P9.1: a copy has its unit", third, 895, 256, false)
	set(t, "P9.1: a copy has its unit", third, 1152, 256, true)
	set(t, "P9.1: a copy has its unit", third, 1153, 256, false)
}

// Whatever the rates between: each unit takes what it is at its own rate, and all of it is all ticks, but for what went with a lesser rate.
func TestNoTickIsLost(t *testing.T) {
	r := rand.New(rand.NewSource(92))
	for range 200 {
		unit := 1 + r.Intn(mostUnit)
		c := New(unit)
		ticked, spent, gone := 0, 0, 0
		for range 400 {
			n := r.Intn(12) - 2
			num, _ := c.Rate()
			was := c.Time()
			c.Tick(n)
			ticked += min(max(n, 0), mostTicks) * 256
			spent += Since(was, c.Time()) * num
			if c.Part() < 0 || c.Part() >= num {
				t.Fatalf("P9.1: part %d of %d", c.Part(), num)
			}
			if ticked != spent+c.Part()+gone {
				t.Fatalf("P9.2: unit %d: %d of ticks, %d as units, %d as a part, %d gone", unit, ticked, spent, c.Part(), gone)
			}
			if r.Intn(6) == 0 {
				part := c.Part()
				num = unit*224 + r.Intn(unit*64+1)
				set(t, "P9.1", c, num, 256, true)
				gone += max(part-(num-1), 0)
			}
		}
	}
}

// With one rate alone nothing ever goes: units and a part are all ticks.
func TestNoTickIsLostAtOneRate(t *testing.T) {
	for unit := 1; unit <= mostUnit; unit++ {
		for _, num := range []int{unit * 224, unit*240 + 1, unit * 256, unit*271 - 1, unit * 288} {
			c := New(unit)
			set(t, "P9.2", c, num, 256, true)
			ticks := 0
			for i := range 2000 {
				n := (i*7 + unit) % 9
				ticks += n
				c.Tick(n)
				if int(c.Time())*num+c.Part() != ticks*256 {
					t.Fatalf("P9.2: unit %d, rate %d: %d ticks are %d and %d", unit, num, ticks, c.Time(), c.Part())
				}
			}
		}
	}
}
