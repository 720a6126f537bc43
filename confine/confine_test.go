package confine

import (
	"fmt"
	"math"
	"testing"

	"ostinato/api"
)

func of(sent, got int) api.Counts { return api.Counts{Sent: sent, Got: got} }

func same(t *testing.T, what string, got, want any) {
	t.Helper()
	if got != want {
		t.Errorf("%s: %v, want %v", what, got, want)
	}
}

func sameSent(t *testing.T, c api.Counts, well, badly api.Counts) {
	t.Helper()
	same(t, fmt.Sprintf("P5.1: Sent(%v, true)", c), Sent(c, true), well)
	same(t, fmt.Sprintf("P5.1: Sent(%v, false)", c), Sent(c, false), badly)
}

func sameGot(t *testing.T, c api.Counts, well, badly api.Counts) {
	t.Helper()
	same(t, fmt.Sprintf("P5.1: Got(%v, true)", c), Got(c, true), well)
	same(t, fmt.Sprintf("P5.1: Got(%v, false)", c), Got(c, false), badly)
}

// sameKind: which of the three it is.
func sameKind(t *testing.T, c api.Counts, is, passive, off bool) {
	t.Helper()
	same(t, fmt.Sprintf("P5.1: Is(%v)", c), Is(c), is)
	same(t, fmt.Sprintf("P5.1: IsPassive(%v)", c), IsPassive(c), passive)
	same(t, fmt.Sprintf("P5.1: IsOff(%v)", c), IsOff(c), off)
}

// some: counters that can be: ordinary ones, and all the edges and their neighbours.
func some() []int {
	return []int{0, 1, 2, 5, 7, 8, 9, 100, 119, 120, 121, 126, 127, 128, 129, 200, 247, 248, 249, 254, 255, 256, 257, 500, 991, 992, 993, 994, 998, 999, 1000}
}

// none: counters that can't be.
func none() []int {
	return []int{-1, -2, -8, -9, -128, -256, -1000, -1001, 1001, 1002, 1008, 1009, 2000, math.MinInt32, math.MaxInt32, math.MinInt + 1, math.MinInt, math.MaxInt - 8, math.MaxInt - 1, math.MaxInt}
}

// every: all from 0 to 1000, by a count.
func every() []int {
	var all []int
	for n := 0; n < 1001; n++ {
		all = append(all, n)
	}
	return all
}

// P5.1: rows written out by hand; the other counter stays.
func TestSent(t *testing.T) {
	for _, r := range []struct{ sent, well, badly int }{
		{0, 0, 8}, {1, 0, 9}, {2, 1, 10}, {7, 6, 15}, {8, 7, 16}, {100, 99, 108},
		{119, 118, 127}, {120, 119, 128}, {127, 126, 135}, {128, 127, 136}, {129, 128, 137},
		{247, 246, 255}, {248, 247, 256}, {255, 254, 263}, {256, 255, 264},
		{991, 990, 999}, {992, 991, 1000}, {993, 992, 1000}, {999, 998, 1000}, {1000, 999, 1000},
	} {
		for _, got := range some() {
			sameSent(t, of(r.sent, got), of(r.well, got), of(r.badly, got))
		}
	}
}

// P5.1: rows written out by hand; the other counter stays.
func TestGot(t *testing.T) {
	for _, r := range []struct{ got, well, badly int }{
		{0, 0, 1}, {1, 0, 2}, {2, 1, 3}, {100, 99, 101},
		{119, 118, 120}, {120, 119, 121}, {121, 120, 122}, {126, 125, 127}, {127, 126, 128}, {128, 120, 129}, {129, 120, 130},
		{255, 120, 256}, {256, 120, 257}, {998, 120, 999}, {999, 120, 1000}, {1000, 120, 1000},
	} {
		for _, sent := range some() {
			sameGot(t, of(sent, r.got), of(sent, r.well), of(sent, r.badly))
		}
	}
}

// P5.1: all counters that can be.
func TestSentAndGotOfEvery(t *testing.T) {
	for _, n := range every() {
		lessSent, lessGot := n-1, n-1
		if n == 0 {
			lessSent, lessGot = 0, 0
		}
		if n > 127 {
			lessGot = 120
		}
		more8, more1 := n+8, n+1
		if more8 > 1000 {
			more8 = 1000
		}
		if more1 > 1000 {
			more1 = 1000
		}
		for _, other := range some() {
			sameSent(t, of(n, other), of(lessSent, other), of(more8, other))
			sameGot(t, of(other, n), of(other, lessGot), of(other, more1))
		}
	}
}

// P5.1: whichever of both can't be, all comes back as it was.
func TestWhatIsNot(t *testing.T) {
	for _, bad := range none() {
		for _, other := range append(some(), none()...) {
			for _, c := range []api.Counts{of(bad, other), of(other, bad)} {
				same(t, fmt.Sprintf("P5.1: Is(%v)", c), Is(c), false)
				sameSent(t, c, c, c)
				sameGot(t, c, c, c)
			}
		}
	}
}

// P5.1
func TestIs(t *testing.T) {
	for _, n := range every() {
		for _, other := range some() {
			same(t, fmt.Sprintf("P5.1: Is(%d, %d)", n, other), Is(of(n, other)), true)
			same(t, fmt.Sprintf("P5.1: Is(%d, %d)", other, n), Is(of(other, n)), true)
		}
	}
}

// P5.1: rows written out by hand.
func TestKinds(t *testing.T) {
	for _, r := range []struct {
		c                api.Counts
		is, passive, off bool
	}{
		{of(0, 0), true, false, false}, {of(5, 7), true, false, false},
		{of(127, 0), true, false, false}, {of(0, 127), true, false, false}, {of(127, 127), true, false, false},
		{of(128, 0), true, true, false}, {of(128, 127), true, true, false},
		{of(0, 128), true, true, false}, {of(127, 128), true, true, false}, {of(128, 128), true, true, false},
		{of(255, 0), true, true, false}, {of(255, 127), true, true, false}, {of(255, 128), true, true, false}, {of(255, 1000), true, true, false},
		{of(256, 0), true, false, true}, {of(256, 127), true, false, true}, {of(256, 128), true, false, true}, {of(256, 1000), true, false, true},
		{of(0, 256), true, true, false}, {of(0, 1000), true, true, false}, {of(1000, 0), true, false, true}, {of(1000, 1000), true, false, true},
		{of(-1, 0), false, false, false}, {of(0, -1), false, false, false}, {of(-1, -1), false, false, false},
		{of(1001, 0), false, false, true}, {of(0, 1001), false, true, false}, {of(1001, 1001), false, false, true},
		{of(128, -1), false, true, false}, {of(-1, 128), false, true, false}, {of(256, -1), false, false, true},
		{of(math.MaxInt, math.MinInt), false, false, true}, {of(math.MinInt, math.MaxInt), false, true, false},
		{of(math.MaxInt, math.MaxInt), false, false, true}, {of(math.MinInt, math.MinInt), false, false, false},
		{of(math.MinInt, 127), false, false, false}, {of(255, math.MaxInt), false, true, false},
	} {
		sameKind(t, r.c, r.is, r.passive, r.off)
	}
}

// P5.1: Off and Passive of all, of what can't be, too.
func TestKindsOfEvery(t *testing.T) {
	others := append(some(), none()...)
	for _, n := range append(every(), none()...) {
		for _, other := range others {
			for _, c := range []api.Counts{of(n, other), of(other, n)} {
				off := c.Sent > 255
				same(t, fmt.Sprintf("P5.1: IsOff(%v)", c), IsOff(c), off)
				same(t, fmt.Sprintf("P5.1: IsPassive(%v)", c), IsPassive(c), !off && (c.Sent > 127 || c.Got > 127))
			}
		}
	}
}

// confined: how little it is heard: 0 as all others, 1 passive, 2 off.
func confined(c api.Counts) int {
	switch {
	case IsOff(c):
		return 2
	case IsPassive(c):
		return 1
	}
	return 0
}

// P5.2: from the beginning on, badly sent each time: sixteen make it passive, thirty-two off, and that it stays.
func TestSentBadlyAgainAndAgain(t *testing.T) {
	c := api.Counts{}
	for times := range 200 {
		want := 0
		if times >= 16 {
			want = 1
		}
		if times >= 32 {
			want = 2
		}
		same(t, fmt.Sprintf("P5.2: %d times sent badly", times), confined(c), want)
		c = Sent(c, false)
	}
	same(t, "P5.1: badly sent for long", c, of(1000, 0))
}

// P5.2: one that only hears badly is passive, but never off; the first frame that comes well lets it be heard again.
func TestGotBadlyAgainAndAgain(t *testing.T) {
	c := api.Counts{}
	for times := range 1200 {
		want := 0
		if times >= 128 {
			want = 1
		}
		same(t, fmt.Sprintf("P5.2: %d times got badly", times), confined(c), want)
		same(t, fmt.Sprintf("P5.2: got well behind %d times badly", times), confined(Got(c, true)), 0)
		c = Got(c, false)
	}
	same(t, "P5.1: badly got for long", c, of(0, 1000))
}

// P5.2: eight frames sent well make one sent badly good again; fewer don't.
func TestSentWellBetween(t *testing.T) {
	for well := range 12 {
		c := api.Counts{}
		for range 300 {
			c = Sent(c, false)
			for range well {
				c = Sent(c, true)
			}
		}
		want := 2
		if well >= 8 {
			want = 0
		}
		same(t, fmt.Sprintf("P5.2: %d sent well behind each badly", well), confined(c), want)
	}
}

// P5.2: what goes badly never lets a node be heard more, what goes well never less.
func TestBadlyIsHeardLess(t *testing.T) {
	for _, sent := range every() {
		for _, got := range some() {
			for _, c := range []api.Counts{of(sent, got), of(got, sent)} {
				now := confined(c)
				if confined(Sent(c, false)) < now || confined(Got(c, false)) < now {
					t.Errorf("P5.2: %v: badly, and it is heard more", c)
				}
				if confined(Sent(c, true)) > now || confined(Got(c, true)) > now {
					t.Errorf("P5.2: %v: well, and it is heard less", c)
				}
			}
		}
	}
}

// P5.1: what can be stays what can be.
func TestIsStaysSo(t *testing.T) {
	for _, sent := range some() {
		for _, got := range every() {
			for _, c := range []api.Counts{of(sent, got), of(got, sent)} {
				if !Is(Sent(c, true)) || !Is(Sent(c, false)) || !Is(Got(c, true)) || !Is(Got(c, false)) {
					t.Errorf("P5.1: %v: of it comes what can't be", c)
				}
			}
		}
	}
}
