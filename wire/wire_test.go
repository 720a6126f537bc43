package wire

import (
	"fmt"
	"math"
	"slices"
	"strings"
	"testing"

	"ostinato/api"
	"ostinato/bits"
	"ostinato/code"
	"ostinato/confine"
	"ostinato/frame"
	"ostinato/mac"
	"ostinato/stuff"
)

const (
	pause = "111"
	flag  = "000000"
	quiet = "11111111" + pause // from the first bit behind a flag to the last one ahead of idle
)

// A row written out by hand: f123, as it is sent, and as it is when somebody took it.
const (
	part123 = "000100100011" + "00000100" + "110100001011000"
	sent123 = part123 + "1" + "1" + "1" + "1111111"
	took123 = part123 + "1" + "0" + "1" + "1111111"
)

func f123() api.Frame { return api.Frame{ID: 0x123} }

func start() api.Event                          { return api.Event{Kind: api.EStart} }
func isOff() api.Event                          { return api.Event{Kind: api.EOff} }
func sent(f api.Frame) api.Event                { return api.Event{Kind: api.ESent, F: f} }
func got(f api.Frame) api.Event                 { return api.Event{Kind: api.EGot, F: f} }
func lost(f api.Frame) api.Event                { return api.Event{Kind: api.ELost, F: f} }
func failed(f api.Frame, e api.Errno) api.Event { return api.Event{Kind: api.EFailed, F: f, E: e} }
func met(e api.Errno) api.Event                 { return api.Event{Kind: api.EError, E: e} }

// times: the same event again and again.
func times(e api.Event, n int) []api.Event { return slices.Repeat([]api.Event{e}, n) }

func same(t *testing.T, what string, got, want any) {
	t.Helper()
	if got != want {
		t.Errorf("%s: %v, want %v", what, got, want)
	}
}

func sameEvents(t *testing.T, what string, got []api.Event, want ...api.Event) {
	t.Helper()
	at := 0
	for at < len(got) && at < len(want) && got[at] == want[at] {
		at++
	}
	if at < len(got) || at < len(want) {
		t.Errorf("%s: %d events, want %d; from number %d on %v, want %v", what, len(got), len(want), at, firstOf(got[at:]), firstOf(want[at:]))
	}
}

// firstOf: some of a list, enough to be told.
func firstOf(list []api.Event) []api.Event { return list[:min(len(list), 9)] }

// stepAll: as many bits as flips has; a 1 of it is a turned bit.
func (x *pair) stepAll(flips string) []api.Event {
	x.t.Helper()
	var told []api.Event
	for i := range len(flips) {
		told = append(told, x.step(flips[i] == '1')...)
	}
	return told
}

// nobody: numbers that are no node's of a wire of n.
func nobody(n int) []int {
	return []int{math.MinInt, math.MinInt32, -mostNodes, -2, -1, n, n + 1, n + mostNodes, math.MaxInt32, math.MaxInt}
}

// noFrames: each is beyond one bound.
func noFrames() []api.Frame {
	return []api.Frame{{ID: 1 << 11}, {ID: math.MaxUint32}, {Ext: true, ID: 1 << 29}, {Data: "123456789"}, {RTR: true, Data: "x"}}
}

// eight: frames of which each wins against all behind it.
func eight() []api.Frame {
	return []api.Frame{
		{ID: 1, Data: "first"}, {ID: 1, RTR: true}, {Ext: true, ID: 1 << 18, Data: "12345678"}, {ID: 2},
		{ID: 0x123, Data: "\x00\xff"}, {Ext: true, ID: 0x123<<18 | 5, RTR: true}, {ID: 0x7f0, Data: "\x00\x00\x00\x00\x00\x00\x00\x00"}, {ID: 0x7ff},
	}
}

// P8.1: the bounds, both sides of each.
func TestNew(t *testing.T) {
	same(t, "the limit of nodes", api.MaxNodes, mostNodes)
	for n, want := range map[int]int{
		math.MinInt: 1, math.MinInt32: 1, -9: 1, -8: 1, -1: 1, 0: 1, 1: 1, 2: 2, 3: 3, 4: 4, 5: 5, 6: 6, 7: 7, 8: 8,
		9: 8, 10: 8, 16: 8, 256: 8, 257: 8, math.MaxInt32: 8, math.MaxInt: 8,
	} {
		x := &pair{t, New(n), newPaper(want)}
		same(t, fmt.Sprintf("P8.1: New(%d)", n), x.w.Len(), want)
		x.lookAtAll(fmt.Sprintf("New(%d)", n))
		same(t, "P8.1: a new wire's bits", x.w.Bus().Len(), 0)
		same(t, "P8.1: a new wire's trace", x.w.Bus().Trace(), "")
		for who := range want {
			sameEvents(t, "P8.1: a new node", x.w.Heard(who))
			same(t, fmt.Sprintf("P8.1: New(%d): Ask(%d)", n, who), x.ask(who, f123()), api.OK)
		}
		same(t, fmt.Sprintf("P8.1: New(%d): Ask(%d)", n, want), x.ask(want, f123()), api.ErrWho)
		x.run(200)
		x.lookAtAll(fmt.Sprintf("New(%d), asked and run", n))
	}
}

// P8.1: nodes that are new pause for three bits.
func TestNewPauses(t *testing.T) {
	for n := 1; n <= mostNodes; n++ {
		x := newPair(t, n)
		for i := range 3 {
			for who := range n {
				same(t, fmt.Sprintf("P8.1: bit %d: node %d idle", i, who), x.w.Mac(who).Idle(), false)
			}
			sameEvents(t, "P8.1: a pause", x.step(false))
		}
		for who := range n {
			same(t, fmt.Sprintf("P8.1: node %d idle", who), x.w.Mac(who).Idle(), true)
		}
		same(t, "P8.2: the wire", x.w.Bus().Trace(), pause)
	}
}

// P8.1: no such node is told ahead of all that mac refuses, and changes nothing.
func TestAskOfNoNode(t *testing.T) {
	frames := append(noFrames(), f123(), api.Frame{}, api.Frame{Ext: true, ID: 7, Data: "12345678"})
	try := func(x *pair, what string) {
		t.Helper()
		for _, who := range nobody(x.w.Len()) {
			for _, f := range frames {
				same(t, fmt.Sprintf("P8.1: %s: Ask(%d, %#v)", what, who, f), x.w.Ask(who, f), api.ErrWho)
			}
		}
		x.lookAtAll(what)
	}
	for n := 1; n <= mostNodes; n++ {
		x := newPair(t, n)
		try(x, "new")
		for who := range n {
			x.ask(who, f123())
		}
		try(x, "all wait")
		x.run(20)
		try(x, "all send")
		x.run(100)
		try(x, "all sent")
	}
	x := offPair(t)
	try(x, "off")
}

// P8.1: what mac tells, of the node that is asked alone.
func TestAskIsMacs(t *testing.T) {
	for who := range mostNodes {
		x := newPair(t, mostNodes)
		for _, f := range noFrames() {
			same(t, "P8.1: no frame", x.ask(who, f), api.ErrForm)
		}
		same(t, "P8.1: a frame", x.ask(who, f123()), api.OK)
		same(t, "P8.1: another one", x.ask(who, api.Frame{ID: 1}), api.ErrBusy)
		same(t, "P8.1: no frame, with one that waits", x.ask(who, noFrames()[0]), api.ErrForm)
		for other := range mostNodes {
			same(t, fmt.Sprintf("P8.1: asked %d, node %d busy", who, other), x.w.Mac(other).Busy(), other == who)
		}
		x.run(3 + 10)
		same(t, "P8.1: one is being sent", x.ask(who, api.Frame{ID: 1}), api.ErrBusy)
		x.run(len(took123) - 10)
		same(t, "P8.1: behind it", x.ask(who, api.Frame{ID: 1}), api.OK)
	}
	x := offPair(t)
	for _, f := range append(noFrames(), f123()) {
		same(t, "P8.1: one that is off", x.ask(0, f), api.ErrOff)
	}
}

// P8.1: nil, none and nothing of who isn't there, on both sides; all others are their own.
func TestNoNode(t *testing.T) {
	for n := 1; n <= mostNodes; n++ {
		x := newPair(t, n)
		x.ask(0, f123())
		for range 3 {
			for _, who := range nobody(n) {
				if x.w.Mac(who) != nil {
					t.Errorf("P8.1: %d nodes: Mac(%d) isn't nil", n, who)
				}
				sameEvents(t, fmt.Sprintf("P8.1: %d nodes: Heard(%d)", n, who), x.w.Heard(who))
			}
			seen := map[*mac.Mac]int{}
			for who := range n {
				m := x.w.Mac(who)
				if m == nil {
					t.Fatalf("P8.1: %d nodes: Mac(%d) is nil", n, who)
				}
				seen[m]++
			}
			same(t, "P8.1: nodes that are others", len(seen), n)
			x.run(30)
		}
	}
}

// P8.1: what Mac and Bus tell is what is now.
func TestMacAndBus(t *testing.T) {
	x := newPair(t, 3)
	x.ask(1, f123())
	for i, bit := range []byte(pause + took123 + pause) {
		same(t, fmt.Sprintf("P8.1: bit %d: busy", i), x.w.Mac(1).Busy(), i < 3+len(took123))
		same(t, fmt.Sprintf("P8.1: bit %d: idle", i), x.w.Mac(0).Idle(), i == 3)
		same(t, fmt.Sprintf("P8.1: bit %d: drive", i), x.w.Mac(1).Drive() == '0', i >= 3 && i < 3+len(sent123) && sent123[max(i-3, 0)] == '0')
		same(t, fmt.Sprintf("P8.1: bit %d: how many", i), x.w.Bus().Len(), i)
		x.step(false)
		same(t, fmt.Sprintf("P8.2: bit %d", i), x.w.Bus().Trace()[i], bit)
	}
	same(t, "P8.1: idle", x.w.Mac(0).Idle() && x.w.Mac(1).Idle() && x.w.Mac(2).Idle(), true)
}

// P8.1, P8.2: a frame of each node among each number of them, bit by bit: what all tell, what each heard.
func TestOneAsks(t *testing.T) {
	for n := 2; n <= mostNodes; n++ {
		for who := range n {
			x := newPair(t, n)
			x.ask(who, f123())
			for i := range len(pause + took123 + pause) {
				told := x.step(false)
				switch i - 3 {
				case 0:
					sameEvents(t, "P8.1: a frame begins", told, times(start(), n)...)
				case len(took123) - 2:
					sameEvents(t, "P8.1: it came", told, times(got(f123()), n-1)...)
				case len(took123) - 1:
					sameEvents(t, "P8.1: it went", told, sent(f123()))
				default:
					sameEvents(t, fmt.Sprintf("P8.1: bit %d", i), told)
				}
			}
			same(t, "P8.2: the wire", x.w.Bus().Trace(), pause+took123+pause)
			for i := range n {
				want := got(f123())
				if i == who {
					want = sent(f123())
				}
				sameEvents(t, fmt.Sprintf("P8.1: Heard(%d)", i), x.w.Heard(i), start(), want)
			}
		}
	}
}

// P8.2: the lesser one goes first, whichever number it has.
func TestTwoAsk(t *testing.T) {
	a, b := api.Frame{ID: 5, Data: "a"}, api.Frame{ID: 9}
	for one := range 4 {
		for other := range 4 {
			if one == other {
				continue
			}
			x := newPair(t, 4)
			x.ask(one, a)
			x.ask(other, b)
			x.run(3 + code.Len(a))
			same(t, "P8.2: the wire", x.w.Bus().Trace(), pause+code.Acked(a))
			for who := range 4 {
				want := []api.Event{start(), got(a)}
				switch who {
				case one:
					want = []api.Event{start(), sent(a)}
				case other:
					want = []api.Event{start(), lost(b), got(a)}
				}
				sameEvents(t, fmt.Sprintf("P8.2: Heard(%d)", who), x.w.Heard(who), want...)
			}
			same(t, "P8.1: what lost is done", x.w.Mac(other).Busy(), false)
		}
	}
}

// P8.2: all ask at once, and again when they lost: one frame behind the other, each comes to all.
func TestAllAsk(t *testing.T) {
	order := eight()
	if !slices.IsSortedFunc(order, frame.Cmp) {
		t.Fatal("the test's frames aren't in their order")
	}
	want := ""
	for _, f := range order {
		want += pause + code.Acked(f)
	}
	for _, places := range [][]int{{0, 1, 2, 3, 4, 5, 6, 7}, {7, 6, 5, 4, 3, 2, 1, 0}, {3, 0, 6, 1, 7, 5, 2, 4}} {
		x := newPair(t, mostNodes)
		for i, who := range places {
			x.ask(who, order[i])
		}
		for range len(want) {
			x.step(false)
			for i, who := range places {
				if h := x.w.Heard(who); len(h) > 0 && h[len(h)-1] == lost(order[i]) && !x.w.Mac(who).Busy() {
					x.ask(who, order[i])
				}
			}
		}
		same(t, "P8.2: the wire", x.w.Bus().Trace(), want)
		for _, who := range places {
			var in []api.Frame
			for _, e := range x.w.Heard(who) {
				if e.Kind == api.EGot || e.Kind == api.ESent {
					in = append(in, e.F)
				}
			}
			if !slices.Equal(in, order) {
				t.Errorf("P8.2: node %d: %v, want %v", who, in, order)
			}
			same(t, "P8.2: counted", x.w.Mac(who).Counts(), api.Counts{})
		}
	}
}

// P8.1: at one bit all but one step aside, each with a frame of its own: by their numbers.
func TestOrderOfLost(t *testing.T) {
	for first := range mostNodes {
		x := newPair(t, mostNodes)
		var want []api.Event
		for who := range mostNodes {
			f := api.Frame{ID: 0x500 | uint32(7*who+3)%8} // other numbers stand in another order
			if who == first {
				f.ID = 0x0aa
			} else {
				want = append(want, lost(f))
			}
			x.ask(who, f)
		}
		sameEvents(t, "P8.1: all begin", x.run(4), times(start(), mostNodes)...)
		sameEvents(t, "P8.1: all but one lose", x.step(false), want...)
	}
}

// P8.1: a node's own events stand together, in their order, among the others' by its number.
func TestOrderOfErrors(t *testing.T) {
	laid := api.Frame{ID: 1} // five 0 at first, then a 1 laid behind them
	late := api.Frame{ID: 0x155, Data: "\x00"}
	row := code.Acked(late)
	at := strings.LastIndex(row[:len(row)-10], "000001") + 5
	if at < len(stuff.Stuff(frame.Arb(late))) || code.Encode(laid)[:6] != "000001" {
		t.Fatal("the test's frames have no such bits")
	}
	for who := range mostNodes {
		rest := mostNodes - 1 - who
		x := idlePair(t, mostNodes)
		x.ask(who, laid)
		x.run(5)
		want := slices.Concat(times(met(api.ErrStuff), who), []api.Event{lost(laid), met(api.ErrStuff)}, times(met(api.ErrStuff), rest))
		sameEvents(t, "P8.1: lost, and an error with it", x.step(true), want...)
		sameEvents(t, "P8.1: Heard", x.w.Heard(who), start(), lost(laid), met(api.ErrStuff))

		x = idlePair(t, mostNodes)
		x.ask(who, late)
		x.run(at)
		want = slices.Concat(times(met(api.ErrStuff), who), []api.Event{failed(late, api.ErrBit)}, times(met(api.ErrStuff), rest))
		sameEvents(t, "P8.1: failed, and an error of all others", x.step(true), want...)
	}
}

// P8.1: the bit is turned, whatever all drive, and the one behind it isn't.
func TestFlip(t *testing.T) {
	for n := 1; n <= mostNodes; n++ {
		for at := range 20 { // nobody drives a 0 ahead of it
			x := newPair(t, n)
			x.run(at)
			x.step(true)
			same(t, "P8.1: turned", x.w.Bus().Trace(), strings.Repeat("1", at)+"0")
			x.run(3)
			same(t, "P8.1: behind it", x.w.Bus().Trace(), strings.Repeat("1", at)+"0"+"111")
		}
	}
	x := newPair(t, 3)
	x.ask(2, f123())
	sameEvents(t, "P8.1: a first bit that isn't there", x.stepAll("0001"))
	same(t, "P8.1: a 0 turned", x.w.Bus().Trace(), pause+"1")
	sameEvents(t, "P8.1: the bit behind it is there", x.step(false), start(), start(), start())
	same(t, "P8.1: it is a 0", x.w.Bus().Trace(), pause+"1"+"0")
	x.run(len(took123) - 1)
	same(t, "P8.1: a frame one bit later", x.w.Bus().Trace(), pause+"1"+took123)
}

// P8.1: each turned bit needs a Step of its own; these rows are written out by hand.
func TestFlips(t *testing.T) {
	for flips, want := range map[string]string{
		"000": "111", "100": "011", "010": "101", "001": "110", "110": "001", "011": "100", "101": "010", "111": "000",
		"00100000": "11011111", "01010": "10101",
	} {
		x := newPair(t, 2)
		x.stepAll(flips)
		same(t, "P8.1: flips "+flips, x.w.Bus().Trace(), want)
	}
}

// P8.1: each bit of a frame turned: up to it the row is the frame's, there it is the other bit, and behind it what all drive.
func TestFlipAtEachBit(t *testing.T) {
	for at := range len(took123) {
		x := idlePair(t, 3)
		x.ask(1, f123())
		x.run(at)
		same(t, fmt.Sprintf("P8.2: ahead of bit %d", at), x.w.Bus().Trace(), pause+took123[:at])
		x.step(true)
		same(t, fmt.Sprintf("P8.1: bit %d turned", at), x.w.Bus().Trace(), pause+bits.Turn(took123[:at+1], at))
		x.run(150)
		x.lookAtAll("a bit turned")
		for who := range 3 {
			same(t, fmt.Sprintf("P8.2: bit %d turned: idle", at), x.w.Mac(who).Idle(), true)
		}
	}
	x := idlePair(t, 3)
	x.ask(1, f123())
	x.run(35)
	sameEvents(t, "P8.1: the bit behind the sum turned", x.step(true), met(api.ErrForm), failed(f123(), api.ErrBit), met(api.ErrForm))
	x.run(6 + len(quiet))
	same(t, "P8.2: the wire", x.w.Bus().Trace(), pause+part123+"0"+flag+quiet)
	same(t, "P8.1: idle", x.w.Mac(0).Idle() && x.w.Mac(1).Idle() && x.w.Mac(2).Idle(), true)
}

// offPair: one alone that is off.
func offPair(t *testing.T) *pair {
	t.Helper()
	x := newPair(t, 1)
	for n := 0; !confine.IsOff(x.w.Mac(0).Counts()); n++ {
		if n > 5000 {
			t.Fatal("P8.1: alone, and never off")
		}
		if !x.w.Mac(0).Busy() {
			x.ask(0, f123())
		}
		x.step(false)
	}
	return x
}

// P8.2: one alone: nobody takes its frame; written out by hand up to its passive flag, then until it is off.
func TestAlone(t *testing.T) {
	x := newPair(t, 1)
	want, heard := pause, []api.Event{}
	for n := 1; n <= 32; n++ {
		same(t, "P8.1: alone, asked", x.ask(0, f123()), api.OK)
		now := []api.Event{start(), failed(f123(), api.ErrAck)}
		bits := sent123[:37]
		switch {
		case n < 16:
			bits += flag + quiet
		case n < 32:
			bits += "111111" + quiet
		default:
			now = append(now, isOff())
		}
		if n == 1 {
			sameEvents(t, "P8.1: alone, the pause", x.run(3))
		}
		sameEvents(t, fmt.Sprintf("P8.1: alone, frame %d", n), x.run(len(bits)), now...)
		want, heard = want+bits, append(heard, now...)
		same(t, "P8.1: alone, counted", x.w.Mac(0).Counts(), api.Counts{Sent: 8 * n})
	}
	same(t, "P8.2: alone, the wire", x.w.Bus().Trace(), want)
	sameEvents(t, "P8.1: alone, heard", x.w.Heard(0), heard...)
	sameEvents(t, "P8.1: off", x.run(300))
	same(t, "P8.1: off, the wire", strings.HasSuffix(x.w.Bus().Trace(), strings.Repeat("1", 300)), true)
	same(t, "P8.1: off, asked", x.ask(0, f123()), api.ErrOff)
	x.lookAtAll("off")
	sameEvents(t, "P8.1: alone and still", newPair(t, 1).run(500))
}

// P8.1: one that is off is silent, all others go on without it.
func TestOneIsOff(t *testing.T) {
	x := idlePair(t, 3)
	for range 32 { // each time the same bit of its frame is turned
		x.ask(1, f123())
		x.run(20)
		x.step(true)
		x.run(80)
	}
	same(t, "P8.1: off", x.ask(1, f123()), api.ErrOff)
	h := x.w.Heard(1)
	sameEvents(t, "P8.1: the last ones of who is off", h[len(h)-3:], start(), failed(f123(), api.ErrBit), isOff())
	f := api.Frame{ID: 3, Data: "on"}
	x.ask(0, f)
	sameEvents(t, "P8.1: the others", x.run(code.Len(f)), start(), start(), got(f), sent(f))
	sameEvents(t, "P8.1: nothing more of who is off", x.w.Heard(1), h...)
	x.lookAtAll("one is off")
}

// numbered: frames of which each is another one.
func numbered(i int) api.Frame { return api.Frame{ID: 0x155, Data: fmt.Sprintf("%d", i)} }

// sendsTo: node 0 sends frames until the others have heard so many events.
func (x *pair) sendsTo(events int) {
	x.t.Helper()
	for len(x.p.told[1]) < events {
		if x.w.Mac(0).Idle() && !x.w.Mac(0).Busy() {
			x.ask(0, numbered(len(x.p.told[1])/2))
		}
		x.step(false)
	}
	if len(x.p.told[1]) != events {
		x.t.Fatalf("the test wanted %d events, and has %d", events, len(x.p.told[1]))
	}
}

// expected: what whoever hears has heard behind so many events of these frames.
func expected(events int) []api.Event {
	var all []api.Event
	for i := range events {
		if i%2 == 0 {
			all = append(all, start())
		} else {
			all = append(all, got(numbered(i/2)))
		}
	}
	return all
}

// P8.1: none, one, just the limit, one more, and many more: the eldest go.
func TestHeardAtTheLimit(t *testing.T) {
	same(t, "the limit of events", api.MaxEvents, mostEvents)
	x := idlePair(t, 3)
	for _, events := range []int{0, 1, 2, 3, 50, 98, 99, 100, 101, 102, 103, 150, 199, 200, 201, 202, 257, 333} {
		x.sendsTo(events)
		want := expected(events)
		if events > 100 {
			want = want[events-100:]
		}
		for _, who := range []int{1, 2} {
			sameEvents(t, fmt.Sprintf("P8.1: %d events: Heard(%d)", events, who), x.w.Heard(who), want...)
			sameEvents(t, fmt.Sprintf("P8.1: %d events: Heard(%d) again", events, who), x.w.Heard(who), want...)
		}
		x.lookAtAll("at the limit")
	}
}

// P8.1: two events at one bit, when there is room for one more only.
func TestTwoAtTheLimit(t *testing.T) {
	for ahead, want := range map[int]int{95: 98, 96: 99, 97: 100, 98: 100, 99: 100, 100: 100} {
		x := idlePair(t, 3)
		if ahead%2 == 1 { // who loses hears one more of that frame
			x.ask(0, api.Frame{ID: 0x155})
			x.ask(1, api.Frame{ID: 0x156})
			x.run(len(took123))
		}
		x.sendsTo(ahead)
		for !x.w.Mac(1).Idle() {
			x.step(false)
		}
		f := api.Frame{ID: 1} // a 1 is laid behind its first five bits
		x.ask(1, f)
		x.run(5)
		same(t, "P8.1: two at one bit", len(x.step(true)), 4)
		h := x.w.Heard(1)
		same(t, fmt.Sprintf("P8.1: how many behind %d", ahead), len(h), want)
		sameEvents(t, "P8.1: the last ones", h[len(h)-3:], start(), lost(f), met(api.ErrStuff))
		x.lookAtAll("two at the limit")
	}
}

// P8.1: each node has its own: one at the limit and one below it.
func TestHeardOfEach(t *testing.T) {
	x := idlePair(t, 2)
	for len(x.p.told[1]) < 120 { // the sender hears three for two, when it loses
		x.ask(0, api.Frame{ID: 0x155})
		x.ask(1, api.Frame{ID: 0x156})
		x.run(100)
	}
	if len(x.p.told[0]) > 100 {
		t.Fatal("the test's sender has heard too much")
	}
	same(t, "P8.1: below the limit", len(x.w.Heard(0)), len(x.p.told[0]))
	same(t, "P8.1: at the limit", len(x.w.Heard(1)), 100)
	x.lookAtAll("each its own")
}

// spoil: all of a list and of the room behind it becomes other.
func spoil(list []api.Event) {
	whole := list[:cap(list)]
	for i := range whole {
		whole[i] = api.Event{Kind: -1, F: api.Frame{ID: 77}, E: -1}
	}
}

// P8.1: what was told, changed by whoever got it, changes nothing of the wire or of another answer.
func TestAnswersAreNew(t *testing.T) {
	for _, ahead := range []int{0, 1, 2, 5, 99, 100, 101, 150} {
		x := idlePair(t, 3)
		x.sendsTo(ahead)
		for who := range 3 {
			first := x.w.Heard(who)
			kept := slices.Clone(first)
			spoil(x.w.Heard(who))
			sameEvents(t, "P8.1: an answer behind another one was changed", first, kept...)
			sameEvents(t, "P8.1: Heard behind an answer was changed", x.w.Heard(who), kept...)
			spoil(first)
		}
		x.lookAtAll("answers changed")
		x.run(200)
		x.lookAtAll("answers changed, and on")
	}
}

// P8.1: the same of what Step tells; and an answer stays what it was, whatever comes.
func TestAnswersOfStepAreNew(t *testing.T) {
	x := newPair(t, 5)
	var answers, kept [][]api.Event
	for i := range 3000 {
		if i%60 == 0 {
			x.ask(i/60%5, numbered(i))
		}
		told := x.step(i%701 == 700)
		if i%2 == 0 {
			spoil(told)
			continue
		}
		answers, kept = append(answers, told, x.w.Heard(i%5)), append(kept, slices.Clone(told), slices.Clone(x.w.Heard(i%5)))
	}
	x.lookAtAll("answers of Step changed")
	for i := range answers {
		sameEvents(t, "P8.1: an answer of long ago", answers[i], kept[i]...)
	}
}

// P8.1: what was on one wire changes nothing on another one.
func TestTwoWires(t *testing.T) {
	x, y := newPair(t, 3), newPair(t, 3)
	x.ask(0, f123())
	for i := range 100 {
		x.step(i == 60)
		y.look("another wire's step")
	}
	y.lookAtAll("another wire's frame")
	same(t, "P8.1: its own bits", y.w.Bus().Len(), 0)
	sameEvents(t, "P8.1: its own events", y.run(100))
	x.lookAtAll("another wire's bits")
}

// P8.1: a copy made at each bit of a frame and of what is behind it goes on as the first one would; each goes its own way, whichever is first.
func TestCopyInAFrame(t *testing.T) {
	for at := range len(pause+took123) + 6 {
		for _, first := range []bool{true, false} {
			x := newPair(t, 3)
			x.ask(1, f123())
			x.ask(2, api.Frame{ID: 0x124, Data: "later"})
			x.run(at)
			y, z := x.copy(), x.copy()
			y.lookAtAll("a copy")
			ways := []func(){
				func() { x.run(200) },
				func() { y.step(true); y.ask(0, api.Frame{ID: 1}); y.run(200) },
			}
			if !first {
				slices.Reverse(ways)
			}
			for _, way := range ways {
				way()
				z.look("another one's way")
			}
			x.lookAtAll("the first one")
			y.lookAtAll("its copy")
			z.lookAtAll("a copy that stood still")
			z.run(200)
			same(t, "P8.1: the same way twice", z.w.Bus().Trace(), x.w.Bus().Trace())
			z.lookAtAll("a copy that went on")
		}
	}
}

// P8.1: in the middle of a frame, by hand.
func TestCopyByHand(t *testing.T) {
	w := New(2)
	w.Ask(0, f123())
	for range 3 + 20 {
		w.Step(false)
	}
	c := w.Copy()
	same(t, "P8.1: a copy's nodes", c.Len(), 2)
	same(t, "P8.1: a copy's bits", c.Bus().Trace(), pause+took123[:20])
	sameEvents(t, "P8.1: a copy's events", c.Heard(1), start())
	sameEvents(t, "P8.1: the first one, turned", w.Step(true), failed(f123(), api.ErrBit))
	var told []api.Event
	for range len(took123) - 20 {
		told = append(told, c.Step(false)...)
	}
	sameEvents(t, "P8.1: the copy takes the frame", told, got(f123()), sent(f123()))
	same(t, "P8.2: the copy's bits", c.Bus().Trace(), pause+took123)
	same(t, "P8.2: the first one's bits", w.Bus().Trace(), pause+bits.Turn(took123[:21], 20))
	sameEvents(t, "P8.1: the first one's events", w.Heard(0), start(), failed(f123(), api.ErrBit))
	same(t, "P8.1: what waits on a copy", c.Ask(1, api.Frame{ID: 2}), api.OK)
	same(t, "P8.1: waits there alone", w.Mac(1).Busy(), false)
	same(t, "P8.1: no such node of a copy", c.Ask(2, f123()), api.ErrWho)
	if w.Mac(0) == c.Mac(0) || w.Bus() == c.Bus() || c.Mac(2) != nil || c.Mac(-1) != nil {
		t.Error("P8.1: a copy isn't its own")
	}
}

// P8.1: what is heard by both goes its own ways, behind however many events it was copied.
func TestCopyOfHeard(t *testing.T) {
	for _, ahead := range []int{0, 1, 2, 3, 4, 7, 8, 9, 16, 31, 32, 33, 64, 98, 99, 100, 101, 128, 200} {
		x := idlePair(t, 2)
		x.sendsTo(ahead)
		y := x.copy()
		f, g := api.Frame{ID: 0x111}, api.Frame{ID: 0x222}
		for range 3 {
			for !x.w.Mac(0).Idle() {
				x.step(false)
				y.step(false)
			}
			x.ask(0, f)
			y.ask(0, g)
			for range 80 {
				x.step(false)
				y.step(false)
			}
		}
		x.lookAtAll("the first one")
		y.lookAtAll("its copy")
		spoil(y.w.Heard(1))
		x.lookAtAll("the first one, the copy's answer changed")
	}
}

// P8.2: each node alone with the wire's row tells what it told among the others: there is one row of bits, and all see it.
func TestOneRow(t *testing.T) {
	for n := 1; n <= mostNodes; n++ {
		x := newPair(t, n)
		type asked struct {
			at, who int
			f       api.Frame
		}
		var all []asked
		for i := range 1200 {
			if i%17 == 0 {
				a := asked{i, i / 17 % n, eight()[i/17*5%8]}
				if x.ask(a.who, a.f) == api.OK {
					all = append(all, a)
				}
			}
			x.step(i%331 == 330)
		}
		row := x.w.Bus().Trace()
		same(t, "P8.2: bits", len(row), 1200)
		for who := range n {
			m := mac.New()
			var told []api.Event
			for i := range len(row) {
				for _, a := range all {
					if a.at == i && a.who == who {
						m.Ask(a.f)
					}
				}
				told = append(told, m.Sample(row[i])...)
			}
			sameEvents(t, fmt.Sprintf("P8.2: node %d of %d", who, n), x.w.Heard(who), lastOf(told, mostEvents)...)
		}
	}
}

// P8.2: undisturbed, whoever sends: all take the same frames, one behind the other, and none goes badly.
func TestAllHearTheSame(t *testing.T) {
	x := newPair(t, mostNodes)
	for i := range 1500 {
		if i%5 == 0 {
			who := i / 5 * 3 % mostNodes
			x.ask(who, api.Frame{ID: 0x100 | uint32(who), Data: fmt.Sprint(i)})
		}
		x.step(false)
	}
	var first []api.Frame
	for who := range mostNodes {
		var in []api.Frame
		for _, e := range x.w.Heard(who) {
			switch e.Kind {
			case api.EGot, api.ESent:
				in = append(in, e.F)
			case api.EFailed, api.EError, api.EOff:
				t.Errorf("P8.2: node %d: %v", who, e)
			}
		}
		if who == 0 {
			first = in
		}
		if !slices.Equal(in, first) || len(in) < 15 {
			t.Errorf("P8.2: node %d: %d frames, or other ones", who, len(in))
		}
	}
	x.lookAtAll("all hear the same")
}
