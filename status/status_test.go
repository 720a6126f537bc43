package status

import (
	"fmt"
	"math"
	"math/rand"
	"slices"
	"sync"
	"testing"

	"ostinato/api"
)

// The limits of the document, written out.
const (
	mostMessages = 12
	mostStatus   = 7
)

// far: numbers that no message has; some of them would be one's if but their low bits were looked at.
var far = []int{math.MinInt, math.MinInt + 2, math.MinInt32, -1 << 32, -1<<32 + 2, -65536, -256, -13, -12, -2, -1, 12, 13, 99, 100, 256, 256 + 2, 65536, 65536 + 2, 1 << 31, 1 << 32, 1<<32 + 2, math.MaxInt - 1, math.MaxInt}

// sizes: what may be asked for, and what is held.
var sizes = map[int]int{
	math.MinInt: 0, math.MinInt32: 0, -1<<32 + 5: 0, -12: 0, -2: 0, -1: 0, 0: 0,
	1: 1, 2: 2, 3: 3, 4: 4, 5: 5, 6: 6, 7: 7, 8: 8, 9: 9, 10: 10, 11: 11, 12: 12,
	13: 12, 14: 12, 16: 12, 256: 12, 65536: 12, math.MaxInt32: 12, 1 << 32: 12, 1<<32 + 1: 12, math.MaxInt: 12,
}

// spreadOf: the greatest less the least, looked for pair by pair.
func spreadOf(l []int) int {
	spread := 0
	for _, a := range l {
		for _, b := range l {
			spread = max(spread, a-b)
		}
	}
	return spread
}

// same: what a table tells, asked twice: to be asked changes nothing.
func same(t *testing.T, what string, x *Table, want ...int) {
	t.Helper()
	for _, turn := range []string{"", ", asked again"} {
		if got := x.All(); !slices.Equal(got, want) {
			t.Fatalf("%s%s: All: %v, want %v", what, turn, got, want)
		}
		if got := x.Spread(); got != spreadOf(want) {
			t.Fatalf("%s%s: Spread of %v: %d, want %d", what, turn, want, got, spreadOf(want))
		}
		for msg, n := range want {
			if got := x.Get(msg); got != n {
				t.Fatalf("%s%s: Get(%d): %d, want %d", what, turn, msg, got, n)
			}
		}
		for _, msg := range append([]int{len(want)}, far...) {
			if got := x.Get(msg); got != 0 {
				t.Fatalf("%s%s: Get(%d) of %d counters: %d, want 0", what, turn, msg, len(want), got)
			}
		}
	}
}

// bad: each is a call of its own.
func bad(x *Table, msgs ...int) *Table {
	for _, msg := range msgs {
		x.Bad(msg)
	}
	return x
}

// good: each is a call of its own.
func good(x *Table, msgs ...int) *Table {
	for _, msg := range msgs {
		x.Good(msg)
	}
	return x
}

// of: a table with these counters, made by Bad alone.
func of(t *testing.T, counters ...int) *Table {
	t.Helper()
	x := New(len(counters))
	for msg, n := range counters {
		bad(x, slices.Repeat([]int{msg}, n)...)
	}
	same(t, "P19.1: made by Bad", x, counters...)
	return x
}

func TestLimits(t *testing.T) {
	if api.MaxMessages != mostMessages || api.MaxStatus != mostStatus {
		t.Fatal("P19.1: other limits than the tests have")
	}
}

func TestNew(t *testing.T) {
	for n, want := range sizes {
		what := fmt.Sprint("P19.1: New of ", n)
		x := New(n)
		same(t, what, x, make([]int, want)...)
		for msg := range mostMessages + 2 {
			bad(x, msg)
		}
		same(t, what+", each of them bad", x, slices.Repeat([]int{1}, want)...)
		same(t, what+", another one", New(n), make([]int, want)...)
	}
}

// The chapter's example.
func TestExample(t *testing.T) {
	x := New(1)
	same(t, "P19.1: Bad, Bad, Good", good(bad(x, 0, 0), 0), 1)
}

func TestRowsOfBadAndGood(t *testing.T) {
	x := New(4)
	same(t, "P19.1", bad(x, 2), 0, 0, 1, 0)
	same(t, "P19.1", bad(x, 0), 1, 0, 1, 0)
	same(t, "P19.1", bad(x, 2, 2), 1, 0, 3, 0)
	same(t, "P19.1", good(x, 2), 1, 0, 2, 0)
	same(t, "P19.1", bad(x, 3, 3, 3, 3), 1, 0, 2, 4)
	same(t, "P19.1", good(x, 0, 0), 0, 0, 2, 4)
	same(t, "P19.1: nothing was saved up", bad(x, 0), 1, 0, 2, 4)
	same(t, "P19.1", good(x, 3, 2, 3, 2), 1, 0, 0, 2)
	x.Clear()
	same(t, "P19.1: cleared", x, 0, 0, 0, 0)
	same(t, "P19.1: on from there", bad(x, 1, 1, 3), 0, 2, 0, 1)
	same(t, "P19.1: one there, one here", good(bad(x, 0), 1), 1, 1, 0, 1)
}

// Up to MaxStatus one at a time, past it as often as one likes, and down again from there.
func TestBadUpToTheMost(t *testing.T) {
	for n := 1; n <= mostMessages; n++ {
		for msg := range n {
			x, want := New(n), make([]int, n)
			for k := range 3 * mostStatus {
				want[msg] = min(k+1, mostStatus)
				same(t, fmt.Sprintf("P19.1: message %d of %d, %d times bad", msg, n, k+1), bad(x, msg), want...)
			}
			for k := range 2 * mostStatus {
				want[msg] = max(mostStatus-1-k, 0)
				same(t, fmt.Sprintf("P19.1: message %d of %d, then %d times good", msg, n, k+1), good(x, msg), want...)
			}
			want[msg] = 1
			same(t, fmt.Sprintf("P19.1: message %d of %d, then bad", msg, n), bad(x, msg), want...)
		}
	}
	x := bad(New(2), slices.Repeat([]int{1}, 100000)...)
	same(t, "P19.1: for long", x, 0, mostStatus)
	same(t, "P19.1: for long, then good", good(x, 1), 0, mostStatus-1)
	same(t, "P19.1: for long, good and bad", bad(x, 1, 1), 0, mostStatus)
}

func TestGoodAtNothing(t *testing.T) {
	for n := 1; n <= mostMessages; n++ {
		for msg := range n {
			what := fmt.Sprintf("P19.1: message %d of %d, good at 0", msg, n)
			x, want := New(n), make([]int, n)
			for range 10 {
				same(t, what, good(x, msg), want...)
			}
			want[msg] = 1
			same(t, what+", then bad", bad(x, msg), want...)
		}
	}
	x := good(of(t, 1, 2, 1), slices.Repeat([]int{1}, 100000)...)
	same(t, "P19.1: good for long", x, 1, 0, 1)
	same(t, "P19.1: good for long, then bad", bad(x, 1), 1, 1, 1)
}

// Of a message that there isn't nothing is counted, whatever the others have.
func TestNoSuchMessage(t *testing.T) {
	for _, n := range sizes {
		for _, each := range []int{0, 1, 4, mostStatus} {
			want := slices.Repeat([]int{each}, n)
			x := of(t, want...)
			for _, msg := range append([]int{n, n + 1}, far...) {
				what := fmt.Sprintf("P19.1: message %d of %d that have %d", msg, n, each)
				same(t, what+", bad", bad(x, msg, msg), want...)
				same(t, what+", good", good(x, msg, msg, msg), want...)
			}
		}
	}
	x := of(t, 3, 1, 2)
	same(t, "P19.1: below and above", good(bad(x, -1, 3), -1, -1, 3, 3), 3, 1, 2)
	same(t, "P19.1: the first and the last", good(bad(x, 0), 2), 4, 1, 1)
}

func TestAllInOrder(t *testing.T) {
	same(t, "P19.1: of none", New(0))
	same(t, "P19.1: rising", of(t, 0, 1, 2, 3, 4, 5, 6, 7), 0, 1, 2, 3, 4, 5, 6, 7)
	same(t, "P19.1: falling", of(t, 7, 6, 5, 4, 3, 2, 1, 0), 7, 6, 5, 4, 3, 2, 1, 0)
	same(t, "P19.1: all of them", of(t, 3, 0, 7, 1, 1, 0, 0, 5, 2, 6, 4, 7), 3, 0, 7, 1, 1, 0, 0, 5, 2, 6, 4, 7)
	x := New(3)
	same(t, "P19.1: by their numbers, not by when they failed", bad(x, 2, 0, 2, 1, 2, 1), 1, 2, 3)
}

// What All told is the caller's own, its spare room too.
func TestAllIsNew(t *testing.T) {
	for n := range mostMessages + 1 {
		var want []int
		for msg := range n {
			want = append(want, (msg*5+2)%(mostStatus+1))
		}
		x := of(t, want...)
		one, two := x.All(), x.All()
		for i := range one[:cap(one)] {
			one[:cap(one)][i] = 99
		}
		one = append(one, 98)
		if !slices.Equal(two, want) {
			t.Fatalf("P19.1: an answer that another one changed: %v", two)
		}
		same(t, "P19.1: an answer that was changed", x, want...)
		for msg := range n {
			good(x, msg)
		}
		x.Clear()
		if !slices.Equal(two, want) || !slices.Equal(one, append(slices.Repeat([]int{99}, n), 98)) {
			t.Fatalf("P19.1: answers that the table changed: %v, %v", one, two)
		}
	}
}

func TestSpread(t *testing.T) {
	for i, x := range []struct {
		counters []int
		want     int
	}{
		{nil, 0},
		{[]int{0}, 0},
		{[]int{1}, 0},
		{[]int{7}, 0},
		{[]int{0, 0}, 0},
		{[]int{3, 3, 3}, 0},
		{[]int{7, 7, 7, 7, 7, 7, 7, 7, 7, 7, 7, 7}, 0},
		{[]int{0, 1}, 1},
		{[]int{1, 0}, 1},
		{[]int{7, 6}, 1},
		{[]int{4, 2}, 2},
		{[]int{2, 5}, 3},
		{[]int{0, 7}, 7},
		{[]int{7, 0}, 7},
		{[]int{2, 7, 4}, 5},
		{[]int{4, 2, 7}, 5},
		{[]int{7, 4, 2}, 5},
		{[]int{5, 6, 5, 3, 4}, 3}, // neither the first nor the last
		{[]int{1, 1, 1, 1, 1, 1, 1, 1, 1, 1, 1, 2}, 1},
		{[]int{6, 5, 5, 5, 5, 5, 5, 5, 5, 5, 5, 5}, 1},
		{[]int{3, 3, 3, 3, 3, 0, 7, 3, 3, 3, 3, 3}, 7},
	} {
		if got := of(t, x.counters...).Spread(); got != x.want {
			t.Errorf("P19.1: row %d: Spread of %v: %d, want %d", i, x.counters, got, x.want)
		}
	}
	for n := -1; n <= mostMessages+1; n++ {
		if got := New(n).Spread(); got != 0 {
			t.Errorf("P19.1: Spread of New(%d): %d, want 0", n, got)
		}
	}
}

// Behind each step: up with one, down with another, together with all.
func TestSpreadBehindEachStep(t *testing.T) {
	x := New(3)
	for i, s := range []struct {
		step func(*Table, ...int) *Table
		msg  int
		want int
	}{
		{bad, 0, 1}, {bad, 0, 2}, {bad, 1, 2}, {bad, 2, 1}, {bad, 1, 1}, {bad, 2, 0}, {bad, 3, 0}, {bad, 2, 1}, {good, 0, 2},
		{good, 0, 3}, {good, 0, 3}, {good, -1, 3}, {bad, 2, 4}, {bad, 2, 5}, {bad, 2, 6}, {bad, 2, 7}, {bad, 2, 7}, {good, 1, 7},
		{bad, 0, 6}, {good, 2, 5}, {good, 1, 6}, {good, 0, 6}, {good, 2, 5}, {good, 2, 4}, {good, 2, 3}, {good, 2, 2}, {good, 2, 1}, {good, 2, 0},
	} {
		if got := s.step(x, s.msg).Spread(); got != s.want {
			t.Fatalf("P19.1: step %d: Spread of %v: %d, want %d", i, x.All(), got, s.want)
		}
	}
	bad(x, 1, 1, 1)
	x.Clear()
	same(t, "P19.1: cleared", x, 0, 0, 0)
}

func TestClear(t *testing.T) {
	for n, want := range sizes {
		what := fmt.Sprint("P19.1: New of ", n)
		x := New(n)
		for _, each := range []int{0, 1, mostStatus} {
			for msg := range want {
				bad(x, slices.Repeat([]int{msg}, each)...)
			}
			x.Clear()
			same(t, fmt.Sprintf("%s, cleared of %d each", what, each), x, make([]int, want)...)
			x.Clear()
			same(t, what+", cleared again", x, make([]int, want)...)
		}
		for msg := range want {
			bad(x, msg)
			x.Clear()
			same(t, fmt.Sprintf("%s, cleared of message %d", what, msg), x, make([]int, want)...)
		}
		bad(x, -1, 0, want)
		if want > 0 {
			same(t, what+", on from there", x, append([]int{1}, make([]int, want-1)...)...)
		}
	}
	x := of(t, 7, 0, 3)
	x.Clear()
	same(t, "P19.1: no failure is left over", good(bad(x, 0, 2, 2), 0, 1), 0, 0, 2)
}

// A copy has all counters, and goes its own way from there, as does the first one.
func TestCopy(t *testing.T) {
	x := of(t, 2, 0, 7)
	y := x.Copy()
	same(t, "P19.1: a copy", y, 2, 0, 7)
	same(t, "P19.1: what is copied", x, 2, 0, 7)
	bad(good(y, 0, 2), 1)
	same(t, "P19.1: whose copy went on", x, 2, 0, 7)
	same(t, "P19.1: a copy that went on", y, 1, 1, 6)
	good(bad(x, 0, 1, 1, 2), 2)
	same(t, "P19.1: whose first one went on", y, 1, 1, 6)
	same(t, "P19.1: a first one that went on", x, 3, 2, 6)
	y.Clear()
	same(t, "P19.1: whose copy was cleared", x, 3, 2, 6)
	z := x.Copy()
	x.Clear()
	same(t, "P19.1: whose first one was cleared", z, 3, 2, 6)
	same(t, "P19.1: a copy that was cleared", bad(y, 2), 0, 0, 1)
	same(t, "P19.1: a first one that was cleared", bad(x, 0), 1, 0, 0)
}

// A copy of any size is of that size: it counts all messages that there are, and no other ones.
func TestCopyOfEachSize(t *testing.T) {
	for n, want := range sizes {
		what := fmt.Sprint("P19.1: New of ", n)
		x := New(n)
		y := x.Copy()
		for msg := range want {
			bad(y, msg)
		}
		bad(y, -1, want)
		same(t, what+", a copy", y, slices.Repeat([]int{1}, want)...)
		same(t, what+", whose copy went on", x, make([]int, want)...)
		z := y.Copy()
		y.Clear()
		same(t, what+", a copy's copy", z, slices.Repeat([]int{1}, want)...)
	}
}

// What All told of one isn't touched by what is done with its copy, nor the other way round.
func TestAllOfCopies(t *testing.T) {
	x := of(t, 1, 2)
	y := x.Copy()
	one, two := x.All(), y.All()
	one[0] = 50
	bad(x, 1)
	same(t, "P19.1: a copy", y, 1, 2)
	two[1] = 60
	bad(y, 0)
	same(t, "P19.1: what is copied", x, 1, 3)
	if !slices.Equal(one, []int{50, 2}) || !slices.Equal(two, []int{1, 60}) {
		t.Errorf("P19.1: answers that were changed: %v, %v", one, two)
	}
}

// P19.2: what fails often stands out among what fails now and then, whichever of them it is.
func TestWhatFailsOftenIsSeen(t *testing.T) {
	for n := 2; n <= mostMessages; n++ {
		for often := range n {
			x := New(n)
			for k := range 40 {
				for msg := range n {
					if msg == often && k%4 != 0 || msg != often && k%4 == 0 {
						bad(x, msg)
					} else {
						good(x, msg)
					}
				}
			}
			for msg, got := range x.All() {
				if msg == often && got < mostStatus-1 || msg != often && got > 1 {
					t.Fatalf("P19.2: %d of %d failed often: counters %v", often, n, x.All())
				}
			}
			if x.Spread() < mostStatus-2 {
				t.Fatalf("P19.2: %d of %d failed often: Spread %d", often, n, x.Spread())
			}
		}
	}
}

// P19.2: what fails always has its counter at the most, behind MaxStatus times; and good ones make up for it.
func TestWhatFailsAlwaysIsSeen(t *testing.T) {
	x := New(2)
	for k := range mostStatus {
		if x.Get(1) == mostStatus {
			t.Fatalf("P19.2: at the most behind %d times", k)
		}
		good(bad(x, 1), 0)
	}
	same(t, "P19.2: always", x, 0, mostStatus)
	same(t, "P19.2: and well again", good(x, slices.Repeat([]int{1}, mostStatus)...), 0, 0)
}

// Whatever the order of calls, and whichever of the copies: each is as a list of its own.
func TestAnyOrder(t *testing.T) {
	r := rand.New(rand.NewSource(191))
	for turn := range 200 {
		n := r.Intn(mostMessages + 1)
		xs, lists := []*Table{New(n)}, [][]int{make([]int, n)}
		for step := range 150 {
			what := fmt.Sprintf("P19.1: turn %d, step %d", turn, step)
			i, msg := r.Intn(len(xs)), r.Intn(n+2)-1
			x, list := xs[i], lists[i]
			is := msg >= 0 && msg < n
			switch k := r.Intn(20); {
			case k < 11:
				if bad(x, msg); is && list[msg] < mostStatus {
					list[msg]++
				}
			case k < 17:
				if good(x, msg); is && list[msg] > 0 {
					list[msg]--
				}
			case k < 18:
				x.Clear()
				for m := range list {
					list[m] = 0
				}
			default:
				xs, lists = append(xs, x.Copy()), append(lists, slices.Clone(list))
			}
			same(t, what, x, list...)
			i = r.Intn(len(xs))
			same(t, what+", another one", xs[i], lists[i]...)
		}
	}
}

// A table that New didn't make has no counters; its calls end all the same.
func TestNotMade(t *testing.T) {
	var x Table
	same(t, "no counters", &x)
	same(t, "no counters", good(bad(&x, 0, 1), 0))
	x.Clear()
	same(t, "no counters", x.Copy())
}

// Looks change nothing, not for other looks at the same time either.
func TestLooksAtOnce(t *testing.T) {
	x := of(t, 3, 0, 7, 1)
	want := []int{3, 0, 7, 1}
	var looks sync.WaitGroup
	for range 4 {
		looks.Go(func() {
			for range 2000 {
				y := bad(x.Copy(), 1)
				if !slices.Equal(x.All(), want) || x.Spread() != 7 || x.Get(0) != 3 || x.Get(4) != 0 || y.Get(1) != 1 {
					t.Error("P19.1: a look that another one changed")
					return
				}
			}
		})
	}
	looks.Wait()
	same(t, "P19.1: behind all looks", x, want...)
}
