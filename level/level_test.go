package level

import (
	"fmt"
	"math"
	"math/rand"
	"slices"
	"sync"
	"testing"

	"ostinato/api"
	"ostinato/status"
)

// The limits and levels of the document, written out.
const (
	mostMessages = 12
	mostStatus   = 7
	s0           = 0
	s1           = 1
	s2           = 2
	s3           = 3
)

// far: numbers that are no level; some of them would be one if but their low bits were looked at.
var far = []int{math.MinInt, math.MinInt + 1, math.MinInt + 2, math.MinInt32, -1 << 32, -1<<32 + 1, -1<<32 + 2, -65536, -65535, -256, -255, -4, -3, -2, -1, 4, 5, 6, 7, 8, 99, 256, 256 + 1, 256 + 2, 65536, 65536 + 2, math.MaxInt32, 1 << 31, 1 << 32, 1<<32 + 1, 1<<32 + 2, math.MaxInt - 1, math.MaxInt}

// bad: each is a call of its own.
func bad(t *status.Table, msgs ...int) *status.Table {
	for _, msg := range msgs {
		t.Bad(msg)
	}
	return t
}

// table has these counters, made by Bad alone.
func table(counters ...int) *status.Table {
	t := status.New(len(counters))
	for msg, n := range counters {
		bad(t, slices.Repeat([]int{msg}, n)...)
	}
	return t
}

// want: the level by the chapter's words, of counters gone through one by one.
func want(counters []int, silent, wrong bool) int {
	least, greatest := mostStatus, 0
	for _, n := range counters {
		if n < least {
			least = n
		}
		if n > greatest {
			greatest = n
		}
	}
	if silent || wrong {
		return s3
	}
	if greatest == mostStatus {
		return s2
	}
	if greatest-least >= 3 {
		return s1
	}
	return s0
}

// is holds a table to a level, asked twice: to be asked changes nothing, of the table neither.
func is(t *testing.T, what string, x *status.Table, silent, wrong bool, level int) {
	t.Helper()
	var counters []int
	if x != nil {
		counters = x.All()
	}
	for _, turn := range []string{"", ", asked again"} {
		if got := Of(x, silent, wrong); got != level {
			t.Fatalf("%s%s: Of of %v, silent %t, wrong %t: %d, want %d", what, turn, counters, silent, wrong, got, level)
		}
		if x != nil && !slices.Equal(x.All(), counters) {
			t.Fatalf("%s%s: Of made %v of a table of %v", what, turn, x.All(), counters)
		}
	}
}

// all holds a table that has a level by itself to it, and to S3 if silent, wrong or both.
func all(t *testing.T, what string, x *status.Table, level int) {
	t.Helper()
	is(t, what, x, false, false, level)
	is(t, what, x, true, false, s3)
	is(t, what, x, false, true, s3)
	is(t, what, x, true, true, s3)
	is(t, what, x, false, false, level)
}

func TestLimits(t *testing.T) {
	if api.MaxMessages != mostMessages || api.MaxStatus != mostStatus {
		t.Fatal("P20.1: other limits than the tests have")
	}
	if api.S0 != s0 || api.S1 != s1 || api.S2 != s2 || api.S3 != s3 {
		t.Fatal("P20.1: other levels than the tests have")
	}
}

// The chapter's example.
func TestExample(t *testing.T) {
	for n := range mostMessages + 1 {
		is(t, "P20.1: the example", status.New(n), true, false, s3)
	}
}

func TestEachLevel(t *testing.T) {
	for i, x := range []struct {
		counters []int
		level    int
	}{
		{[]int{0}, s0},
		{[]int{1}, s0},
		{[]int{3}, s0}, // alone: no message is farther than itself
		{[]int{5}, s0},
		{[]int{0, 0}, s0},
		{[]int{0, 1}, s0},
		{[]int{2, 1, 1, 2}, s0},
		{[]int{5, 5, 5}, s0},
		{[]int{0, 0, 0, 0, 0, 0, 0, 0, 0, 0, 0, 0}, s0},
		{[]int{4, 3, 5, 4, 3, 5, 4, 3, 5, 4, 3, 5}, s0},
		{[]int{0, 4}, s1},
		{[]int{5, 0}, s1},
		{[]int{0, 6, 3}, s1},
		{[]int{3, 6, 0}, s1},
		{[]int{2, 2, 2, 5, 2}, s1},
		{[]int{6, 6, 6, 1, 6}, s1},
		{[]int{1, 0, 1, 0, 1, 0, 1, 0, 1, 0, 1, 4}, s1},
		{[]int{7}, s2},
		{[]int{7, 0}, s2},
		{[]int{0, 7}, s2},
		{[]int{7, 7}, s2},
		{[]int{7, 6, 5}, s2}, // they are even, but at the most
		{[]int{3, 7, 3}, s2},
		{[]int{7, 7, 7, 7, 7, 7, 7, 7, 7, 7, 7, 7}, s2},
		{[]int{0, 0, 0, 0, 0, 0, 0, 0, 0, 0, 0, 7}, s2},
	} {
		all(t, fmt.Sprint("P20.1: row ", i), table(x.counters...), x.level)
	}
}

// Silent, wrong or both are worse than whatever the counters tell.
func TestSilentOrWrong(t *testing.T) {
	for _, counters := range [][]int{{0}, {0, 0, 0}, {0, 3}, {6}, {7}, {7, 0}, {7, 7, 7}} {
		x := table(counters...)
		is(t, "P20.1: silent", x, true, false, s3)
		is(t, "P20.1: wrong", x, false, true, s3)
		is(t, "P20.1: silent and wrong", x, true, true, s3)
		is(t, "P20.1: neither any more", x, false, false, want(counters, false, false))
	}
}

func TestNil(t *testing.T) {
	is(t, "P20.1: nil", nil, false, false, s0)
	is(t, "P20.1: nil, silent", nil, true, false, s3)
	is(t, "P20.1: nil, wrong", nil, false, true, s3)
	is(t, "P20.1: nil, silent and wrong", nil, true, true, s3)
	is(t, "P20.1: nil, neither any more", nil, false, false, s0)
}

func TestNoCounters(t *testing.T) {
	for _, n := range []int{0, -1, -12, math.MinInt} {
		all(t, fmt.Sprint("P20.1: New of ", n), status.New(n), s0)
		all(t, fmt.Sprint("P20.1: New of ", n, ", of no message bad"), bad(status.New(n), 0, 0, 0, 0, 0, 0, 0, 0), s0)
	}
	all(t, "P20.1: a table that New didn't make", &status.Table{}, s0)
}

// At the most and one below it: alone, among others, in each place of tables of each size.
func TestAtTheMost(t *testing.T) {
	for n := 1; n <= mostMessages; n++ {
		for msg := range n {
			for _, others := range []int{0, 3, 4, 6} {
				counters := slices.Repeat([]int{others}, n)
				what := fmt.Sprintf("P20.1: message %d of %d, the others at %d", msg, n, others)
				counters[msg] = mostStatus - 1
				below := s0
				if n > 1 && others <= 3 {
					below = s1
				}
				x := table(counters...)
				all(t, what+", one below the most", x, below)
				all(t, what+", at the most", bad(x, msg), s2)
				all(t, what+", past the most", bad(x, msg, msg), s2)
				x.Good(msg)
				all(t, what+", one below the most again", x, below)
			}
		}
	}
}

// Spread of 2 and of 3: from each least on, up and down, in each place of tables of each size.
func TestSpread(t *testing.T) {
	for n := 2; n <= mostMessages; n++ {
		for msg := range n {
			for least := 0; least+3 < mostStatus; least++ {
				what := fmt.Sprintf("P20.1: message %d of %d", msg, n)
				up, down := slices.Repeat([]int{least}, n), slices.Repeat([]int{least + 3}, n)
				up[msg], down[msg] = least+2, least+1
				all(t, what+", 2 above the others", table(up...), s0)
				all(t, what+", 2 below the others", table(down...), s0)
				up[msg], down[msg] = least+3, least
				all(t, what+", 3 above the others", table(up...), s1)
				all(t, what+", 3 below the others", table(down...), s1)
			}
		}
	}
	for spread, level := range []int{s0, s0, s0, s1, s1, s1, s1, s2} {
		all(t, fmt.Sprint("P20.1: Spread of ", spread), table(0, spread), level)
		all(t, fmt.Sprint("P20.1: Spread of ", spread), table(spread, 0), level)
	}
}

// Any tables of up to four messages.
func TestAllSmallTables(t *testing.T) {
	counters := []int{}
	var next func()
	next = func() {
		all(t, "P20.1: any table", table(counters...), want(counters, false, false))
		if len(counters) == 4 {
			return
		}
		for n := range mostStatus + 1 {
			counters = append(counters, n)
			next()
			counters = counters[:len(counters)-1]
		}
	}
	next()
}

// From one level to the next one and back, a call at a time.
func TestWorseAndBetter(t *testing.T) {
	x := status.New(3)
	all(t, "P20.1: at first", x, s0)
	for k, level := range []int{s0, s0, s1, s1, s1, s1, s2, s2, s2} {
		all(t, fmt.Sprint("P20.1: times bad: ", k+1), bad(x, 1), level)
	}
	for k, level := range []int{s1, s1, s1, s1, s0, s0, s0, s0} {
		x.Good(1)
		all(t, fmt.Sprint("P20.1: times good: ", k+1), x, level)
	}
	for k := range mostStatus - 1 {
		all(t, fmt.Sprint("P20.1: times bad, all of them: ", k+1), bad(x, 0, 1, 2), s0)
	}
	all(t, "P20.1: the first at the most", bad(x, 0), s2)
	all(t, "P20.1: the second too", bad(x, 1), s2)
	x.Good(0)
	all(t, "P20.1: the second alone", x, s2)
	x.Good(1)
	all(t, "P20.1: all below the most", x, s0)
	for range 3 {
		x.Good(2)
	}
	all(t, "P20.1: the third is far better", x, s1)
	all(t, "P20.1: and worse again", bad(x, 2), s0)
	bad(x, 0)
	all(t, "P20.1: ahead of Clear", x, s2)
	x.Clear()
	all(t, "P20.1: cleared", x, s0)
}

// A copy that went on has a level of its own.
func TestCopies(t *testing.T) {
	x := table(0, 2)
	y := bad(x.Copy(), 1)
	all(t, "P20.1: what is copied", x, s0)
	all(t, "P20.1: a copy that went on", y, s1)
	bad(x, 0, 0, 0, 0, 0, 0, 0)
	all(t, "P20.1: what is copied went on", x, s2)
	all(t, "P20.1: a copy whose first one went on", y, s1)
}

func TestMayAndBeats(t *testing.T) {
	for i, x := range []struct {
		level      int
		may, beats bool
	}{
		{s0, true, true},
		{s1, true, true},
		{s2, false, true},
		{s3, false, false},
		{-1, false, false},
		{4, false, false},
	} {
		for range 2 {
			if got := May(x.level); got != x.may {
				t.Errorf("P20.1: row %d: May(%d): %t, want %t", i, x.level, got, x.may)
			}
			if got := Beats(x.level); got != x.beats {
				t.Errorf("P20.1: row %d: Beats(%d): %t, want %t", i, x.level, got, x.beats)
			}
		}
	}
	for _, level := range far {
		if May(level) || Beats(level) {
			t.Errorf("P20.1: level %d, which is none: May %t, Beats %t", level, May(level), Beats(level))
		}
	}
	for level := -5000; level <= 5000; level++ {
		if got, want := May(level), level >= 0 && level < 2; got != want {
			t.Errorf("P20.1: May(%d): %t, want %t", level, got, want)
		}
		if got, want := Beats(level), level >= 0 && level < 3; got != want {
			t.Errorf("P20.1: Beats(%d): %t, want %t", level, got, want)
		}
	}
}

// does counts what a node of that level still does.
func does(level int) int {
	n := 0
	for _, yes := range []bool{May(level), Beats(level)} {
		if yes {
			n++
		}
	}
	return n
}

// P20.2: a worse level never leaves what a better one doesn't, and the worst one nothing.
func TestWhoIsWorseDoesLess(t *testing.T) {
	for level := s0; level < s3; level++ {
		if May(level+1) && !May(level) || Beats(level+1) && !Beats(level) {
			t.Errorf("P20.2: level %d does what level %d doesn't", level+1, level)
		}
	}
	if does(s0) != 2 || does(s2) >= does(s1) || does(s3) >= does(s2) || does(s3) != 0 {
		t.Errorf("P20.2: of events and beats the levels do %d, %d, %d, %d", does(s0), does(s1), does(s2), does(s3))
	}
}

// P20.2: as a message fails again and again a node does less and less, with silent nothing at all; and more again as it gets well.
func TestWhoGetsWorseDoesLess(t *testing.T) {
	for n := 2; n <= mostMessages; n++ {
		x := status.New(n)
		was := Of(x, false, false)
		for range mostStatus + 2 {
			now := Of(bad(x, n-1), false, false)
			if now < was || does(now) > does(was) {
				t.Fatalf("P20.2: of %d a message got worse: level %d to %d, does %d, then %d", n, was, now, does(was), does(now))
			}
			was = now
		}
		if May(was) || !Beats(was) {
			t.Fatalf("P20.2: of %d one fails always: May %t, Beats %t", n, May(was), Beats(was))
		}
		if silent := Of(x, true, false); May(silent) || Beats(silent) {
			t.Fatalf("P20.2: of %d one fails always, and silent: May %t, Beats %t", n, May(silent), Beats(silent))
		}
		for range mostStatus {
			x.Good(n - 1)
			now := Of(x, false, false)
			if now > was || does(now) < does(was) {
				t.Fatalf("P20.2: of %d a message got better: level %d to %d, does %d, then %d", n, was, now, does(was), does(now))
			}
			was = now
		}
		if !May(was) || !Beats(was) {
			t.Fatalf("P20.2: of %d none fails any more: May %t, Beats %t", n, May(was), Beats(was))
		}
	}
}

// Whatever went well and badly, in any order: the level is that of the counters, with what silent and wrong make of it.
func TestAnyOrder(t *testing.T) {
	r := rand.New(rand.NewSource(201))
	for turn := range 300 {
		n := r.Intn(mostMessages + 1)
		x, counters := status.New(n), make([]int, n)
		for step := range 150 {
			what := fmt.Sprintf("P20.1: turn %d, step %d", turn, step)
			msg := r.Intn(n+2) - 1
			there := msg >= 0 && msg < n
			if r.Intn(100) < 40+turn%3*10 {
				if bad(x, msg); there && counters[msg] < mostStatus {
					counters[msg]++
				}
			} else {
				if x.Good(msg); there && counters[msg] > 0 {
					counters[msg]--
				}
			}
			all(t, what, x, want(counters, false, false))
		}
	}
}

// Looks change nothing, not for other looks at the same time either.
func TestLooksAtOnce(t *testing.T) {
	x, y := table(0, 3, 1), table(7, 0)
	var looks sync.WaitGroup
	for range 4 {
		looks.Go(func() {
			for range 2000 {
				if Of(x, false, false) != s1 || Of(y, false, false) != s2 || Of(x, true, false) != s3 || Of(nil, false, false) != s0 || !May(s1) || May(s2) || !Beats(s2) || Beats(s3) {
					t.Error("P20.1: a look that another one changed")
					return
				}
			}
		})
	}
	looks.Wait()
	all(t, "P20.1: behind all looks", x, s1)
	all(t, "P20.1: behind all looks", y, s2)
}
