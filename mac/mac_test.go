package mac

import (
	"fmt"
	"math"
	"math/rand"
	"slices"
	"strings"
	"testing"

	"ostinato/api"
	"ostinato/code"
	"ostinato/frame"
	"ostinato/stuff"
)

const (
	pause = "111"
	quiet = "11111111" + pause // from the first bit behind a flag to the last one ahead of idle
)

// A row written out by hand: f123, as it is sent, and as it is when somebody took it.
const (
	part123 = "000100100011" + "00000100" + "110100001011000"
	sent123 = part123 + "1" + "1" + "1" + "1111111"
	took123 = part123 + "1" + "0" + "1" + "1111111"
)

func f123() api.Frame { return api.Frame{ID: 0x123} }

func start() api.Event                          { return api.Event{Kind: api.EStart} }
func isOff() api.Event                          { return api.Event{Kind: api.EOff} }
func sent(f api.Frame) api.Event                { return api.Event{Kind: api.ESent, F: f} }
func got(f api.Frame) api.Event                 { return api.Event{Kind: api.EGot, F: f} }
func lost(f api.Frame) api.Event                { return api.Event{Kind: api.ELost, F: f} }
func failed(f api.Frame, e api.Errno) api.Event { return api.Event{Kind: api.EFailed, F: f, E: e} }
func met(e api.Errno) api.Event                 { return api.Event{Kind: api.EError, E: e} }

func same(t *testing.T, what string, got, want any) {
	t.Helper()
	if got != want {
		t.Errorf("%s: %v, want %v", what, got, want)
	}
}

func sameEvents(t *testing.T, what string, got []api.Event, want ...api.Event) {
	t.Helper()
	if !slices.Equal(got, want) {
		t.Errorf("%s: %v, want %v", what, got, want)
	}
}

// turn: the row with one bit the other one.
func turn(row string, at int) string {
	b := []byte(row)
	b[at] ^= '0' ^ '1'
	return string(b)
}

// someFrames: all kinds; among them such with a bit of each kind laid behind the sum (9: a 1, 17: a 0).
func someFrames() []api.Frame {
	all := []api.Frame{
		{}, {ID: 9}, {ID: 0x17}, f123(), {ID: 8}, {ID: 0x7f0}, {ID: 0x7ff}, {ID: 0x7ff, RTR: true}, {ID: 0x555, RTR: true},
		{ID: 0x2a5, Data: "hi"}, {ID: 1, Data: "\x00\x00\x00\x00\x00\x00\x00\x00"}, {ID: 0x7ff, Data: "\xff\xff\xff\xff\xff\xff\xff\xff"},
		{Ext: true}, {Ext: true, ID: 1<<29 - 1}, {Ext: true, ID: 1<<29 - 1, RTR: true}, {Ext: true, ID: 0x0aaaaaaa, RTR: true},
		{Ext: true, ID: 0x12345678, Data: "\x00\xff"}, {Ext: true, ID: 1 << 18, Data: "12345678"},
	}
	r := rand.New(rand.NewSource(7))
	for range 10 {
		all = append(all, some(r))
	}
	return all
}

// noFrames: each is beyond one bound.
func noFrames() []api.Frame {
	return []api.Frame{
		{ID: 1 << 11}, {ID: math.MaxUint32}, {Ext: true, ID: 1 << 29}, {Data: "123456789"}, {Ext: true, Data: "123456789"},
		{RTR: true, Data: "x"}, {Ext: true, RTR: true, Data: "x"}, {ID: 1 << 11, RTR: true},
	}
}

// flags: from here on six bits, each with this drive, whatever the levels; then the wire must be still for long, then the node is idle.
func (x *pair) flags(drive byte) {
	x.t.Helper()
	for i := range 6 {
		if d := x.m.Drive(); d != drive {
			x.t.Fatalf("P7.2: flagging, bit %d: %q, want %q", i, d, drive)
		}
		x.quiet("01"[i%2 : i%2+1])
	}
	for range len(quiet) {
		if x.m.Idle() || x.m.Drive() != '1' {
			x.t.Fatalf("P7.3: behind a flag: too early")
		}
		x.quiet("1")
	}
	if !x.m.Idle() {
		x.t.Fatalf("P7.3: behind a flag: not idle")
	}
}

// failOnce: a frame that nobody takes.
func (x *pair) failOnce() []api.Event {
	x.t.Helper()
	x.ask(f123())
	return x.feed(sent123[:len(part123)+2])
}

// offPair: a node that is off.
func offPair(t *testing.T) *pair {
	x := idlePair(t)
	for range 32 {
		x.failOnce()
		if x.m.Counts().Sent < 256 {
			x.feed("111111" + quiet)
		}
	}
	return x
}

// passivePair: idle, by what it sent badly, or by what came badly.
func passivePair(t *testing.T, bySent bool) *pair {
	x := idlePair(t)
	for !x.p.passive() {
		if bySent {
			x.failOnce()
		} else {
			x.feed("000000")
		}
		x.feed("111111" + quiet)
	}
	return x
}

// P7.1: pausing, three bits left.
func TestNew(t *testing.T) {
	m := New()
	for i := range 3 {
		if m.Idle() || m.Busy() || m.Counts() != (api.Counts{}) || m.Drive() != '1' {
			t.Errorf("P7.1: New, bit %d: idle, busy, counted or a 0", i)
		}
		sameEvents(t, "P7.1: New", m.Sample('1'))
	}
	if !m.Idle() || m.Busy() || m.Counts() != (api.Counts{}) || m.Drive() != '1' {
		t.Errorf("P7.1: New, behind three bits: not idle, or not as new")
	}
	if a, b := New(), New(); a == b || a.Ask(f123()) != api.OK || b.Busy() {
		t.Errorf("P7.1: two of New are one")
	}
}

// P7.1
func TestAsk(t *testing.T) {
	for _, f := range someFrames() {
		x := idlePair(t)
		same(t, "P7.1: Ask", x.ask(f), api.OK)
		same(t, "P7.1: Busy", x.m.Busy(), true)
		sameEvents(t, "P7.1: asked and sent", x.feed(code.Acked(f)), start(), sent(f))
		same(t, "P7.1: Busy behind it", x.m.Busy(), false)
	}
}

// P7.1: what is no frame, whether another one waits or not; nothing has changed.
func TestAskNoFrame(t *testing.T) {
	for _, f := range noFrames() {
		x := idlePair(t)
		same(t, fmt.Sprintf("P7.1: Ask(%#v)", f), x.ask(f), api.ErrForm)
		same(t, "P7.1: Busy behind ErrForm", x.m.Busy(), false)
		same(t, "P7.1: Drive behind ErrForm", x.m.Drive(), byte('1'))
		x.ask(f123())
		same(t, fmt.Sprintf("P7.1: Ask(%#v) with one that waits", f), x.ask(f), api.ErrForm)
		x.feed(sent123[:20])
		same(t, fmt.Sprintf("P7.1: Ask(%#v) with one that is being sent", f), x.ask(f), api.ErrForm)
		sameEvents(t, "P7.1: what waited is sent", x.feed(took123[20:]), sent(f123()))
	}
}

// P7.1: the same frame or another one, while one waits and at each bit of its sending.
func TestAskBusy(t *testing.T) {
	x := newPair(t)
	x.ask(f123())
	for _, level := range []byte(pause + "11" + took123) {
		for _, f := range []api.Frame{f123(), {}, {Ext: true, ID: 5, Data: "12345678"}} {
			same(t, "P7.1: Ask of one that is busy", x.ask(f), api.ErrBusy)
		}
		x.step(level)
	}
	same(t, "P7.1: Ask behind it", x.ask(api.Frame{ID: 1}), api.OK)
	sameEvents(t, "P7.1: the frame asked last is sent", x.feed(pause+code.Acked(api.Frame{ID: 1})), start(), sent(api.Frame{ID: 1}))
}

// P7.1: off is told first.
func TestAskOff(t *testing.T) {
	x := offPair(t)
	for _, f := range append(noFrames(), someFrames()...) {
		same(t, fmt.Sprintf("P7.1: Ask(%#v) of one that is off", f), x.ask(f), api.ErrOff)
		same(t, "P7.1: Busy behind ErrOff", x.m.Busy(), false)
	}
}

// states: a node in each state in which a frame may be asked.
func states(t *testing.T) map[string]*pair {
	all := map[string]*pair{
		"pausing":                newPair(t),
		"idle":                   idlePair(t),
		"in a frame":             idlePair(t),
		"about to take":          idlePair(t),
		"at a frame's last bit":  idlePair(t),
		"flagging":               idlePair(t),
		"flagging, passive":      passivePair(t, false),
		"recovering, no 1 yet":   idlePair(t),
		"recovering":             idlePair(t),
		"pausing behind a frame": idlePair(t),
	}
	all["in a frame"].feed(took123[:20])
	all["about to take"].feed(took123[:len(part123)+1])
	all["at a frame's last bit"].feed(took123[:len(took123)-1])
	all["flagging"].feed("000000" + "00")
	all["flagging, passive"].feed("000000" + "11")
	all["recovering, no 1 yet"].feed("000000" + "000000" + "00")
	all["recovering"].feed("000000" + "000000" + "0111")
	all["pausing behind a frame"].feed(took123 + "11")
	return all
}

// P7.1, P7.2: a frame may be asked in each state but off, and is driven when the node is idle, not ahead of that.
func TestAskInEachState(t *testing.T) {
	for name, x := range states(t) {
		was := x.m.Drive()
		same(t, "P7.1: Ask "+name, x.ask(f123()), api.OK)
		if name != "idle" {
			same(t, "P7.2: Drive behind Ask "+name, x.m.Drive(), was)
		}
		for n := 0; !x.m.Idle(); n++ {
			if n > 100 {
				t.Fatalf("P7.3: %s: never idle", name)
			}
			x.step('1')
			same(t, "P7.1: Busy "+name, x.m.Busy(), true)
		}
		sameEvents(t, "P7.1: asked "+name+", sent", x.feed(took123), start(), sent(f123()))
	}
}

// P7.1: what waits goes, in each state, once; the next frame may be asked at once.
func TestCancelWhatWaits(t *testing.T) {
	for name, x := range states(t) {
		same(t, "P7.1: Cancel of nothing "+name, x.cancel(), false)
		x.ask(f123())
		same(t, "P7.1: Cancel "+name, x.cancel(), true)
		same(t, "P7.1: Cancel twice "+name, x.cancel(), false)
		same(t, "P7.1: Busy behind Cancel "+name, x.m.Busy(), false)
		same(t, "P7.1: Ask behind Cancel "+name, x.ask(api.Frame{ID: 7}), api.OK)
		same(t, "P7.1: Cancel "+name, x.cancel(), true)
		for range 100 {
			x.step('1')
			same(t, "P7.2: Drive behind Cancel "+name, x.m.Drive() == '1' || !x.m.Idle(), true)
		}
	}
}

// P7.1: what is being sent doesn't go, from its first bit on the wire to its last one.
func TestCancelWhatIsSent(t *testing.T) {
	for _, f := range someFrames() {
		x := idlePair(t)
		x.ask(f)
		for i, level := range []byte(code.Acked(f)) {
			if i > 0 {
				same(t, fmt.Sprintf("P7.1: Cancel at bit %d", i), x.cancel(), false)
			}
			x.step(level)
		}
		same(t, "P7.1: Cancel behind it", x.cancel(), false)
	}
	x := idlePair(t)
	x.ask(f123())
	x.step('1') // driven, but it isn't on the wire
	same(t, "P7.1: Cancel of a first bit that isn't there", x.cancel(), true)
	x = offPair(t)
	same(t, "P7.1: Cancel of one that is off", x.cancel(), false)
}

// P7.1: a frame is tried once: sent, lost or failed it is done.
func TestTriedOnce(t *testing.T) {
	for name, row := range map[string]string{
		"sent":           took123,
		"lost":           code.Acked(api.Frame{ID: 0x122}),
		"lost and wrong": "000000",
		"failed":         turn(took123, 20)[:21],
		"not taken":      sent123[:len(part123)+2],
	} {
		x := idlePair(t)
		x.ask(f123())
		x.feed(row)
		same(t, "P7.1: Busy behind what is "+name, x.m.Busy(), false)
		same(t, "P7.1: Cancel behind what is "+name, x.cancel(), false)
		for range 60 {
			x.step('1')
		}
		same(t, "P7.1: idle behind what is "+name, x.m.Idle(), true)
		same(t, "P7.1: Drive behind what is "+name, x.m.Drive(), byte('1'))
	}
}

// P7.2: the sender drives its frame bit by bit, and the second bit behind the sum as a 1.
func TestDriveOfSender(t *testing.T) {
	x := idlePair(t)
	x.ask(f123())
	driven := ""
	for _, level := range []byte(took123) {
		driven += string(x.m.Drive())
		x.step(level)
	}
	same(t, "P7.2: driven", driven, sent123)
	for _, f := range someFrames() {
		x := idlePair(t)
		x.ask(f)
		driven := ""
		for _, level := range []byte(code.Acked(f)) {
			driven += string(x.m.Drive())
			x.step(level)
		}
		same(t, fmt.Sprintf("P7.2: %#v driven", f), driven, code.Encode(f))
	}
}

// P7.2: whoever hears drives one 0, behind the sum (and the bit laid behind that); with a sum that isn't right none.
func TestDriveOfWhoHears(t *testing.T) {
	try := func(row string, at int) {
		t.Helper()
		x := idlePair(t)
		for i := range len(row) {
			want := byte('1')
			if i == at {
				want = '0'
			}
			if d := x.m.Drive(); d != want {
				t.Errorf("P7.2: hearing %s: bit %d: %q, want %q", row, i, d, want)
			}
			x.step(row[i])
		}
	}
	try(took123, 36)
	try(sent123, 36)
	try("0000010001001"+"00000100"+"111110000011000001"+"1"+"0"+"1"+"1111111", 40) // 9, a 1 laid behind its sum
	try("0000010010111"+"00000100"+"1010010000111110"+"1"+"0"+"1"+"1111111", 38)   // 17, a 0
	for _, f := range someFrames() {
		row := code.Encode(f)
		try(row, len(row)-9)
		try(code.Acked(f), len(row)-9)
	}
	// another last bit of the sum: up to the third bit behind it nothing is met
	try(turn(took123, 34)[:37], -1)
	try(turn(sent123, 34)[:37], -1)
	try(turn(sent123, 30)[:37], -1)
}

// P7.2: with a frame of its own that waits, whoever hears drives what it drives without.
func TestDriveOfWhoHearsAndWaits(t *testing.T) {
	x := newPair(t)
	x.ask(api.Frame{ID: 1})
	for i, level := range []byte("1" + took123) {
		same(t, fmt.Sprintf("P7.2: bit %d", i), x.m.Drive() == '0', i == 37)
		x.step(level)
	}
	same(t, "P7.1: what waits waits on", x.m.Busy(), true)
	x.feed(pause)
	same(t, "P7.2: then it is driven", x.m.Drive(), byte('0'))
}

// P7.2: idle.
func TestDriveIdle(t *testing.T) {
	x := idlePair(t)
	same(t, "P7.2: idle", x.m.Drive(), byte('1'))
	x.ask(f123())
	same(t, "P7.2: idle with a frame", x.m.Drive(), byte('0'))
	for range 20 { // a wire that is 1 nevertheless
		sameEvents(t, "P7.3: idle, a 1", x.step('1'))
		same(t, "P7.2: idle with a frame, still", x.m.Drive(), byte('0'))
		same(t, "P7.3: idle with a frame, still", x.m.Idle() && x.m.Busy(), true)
	}
	sameEvents(t, "P7.3: at last", x.feed(took123), start(), sent(f123()))
}

// P7.3: each byte but the 0 is a 1, in each state.
func TestLevels(t *testing.T) {
	all := states(t)
	sender := idlePair(t)
	sender.ask(f123())
	sender.feed(sent123[:10])
	all["sending a 1"] = sender
	for name, x := range all {
		for level := range 256 {
			one, other := x.copy(), x.copy()
			as := byte('1')
			if level == 48 {
				as = '0'
			}
			a, b := one.step(byte(level)), other.step(as)
			sameEvents(t, fmt.Sprintf("P7.3: %s: Sample(%d)", name, level), a, b...)
			for range 30 {
				same(t, fmt.Sprintf("P7.3: %s: behind Sample(%d)", name, level), one.m.Idle(), other.m.Idle())
				one.step('1')
				other.step('1')
			}
		}
	}
}

// P7.3: idle.
func TestIdle(t *testing.T) {
	x := idlePair(t)
	x.quiet(strings.Repeat("1", 50))
	same(t, "P7.3: idle for long", x.m.Idle(), true)
	sameEvents(t, "P7.3: idle, a 0", x.step('0'), start())
	same(t, "P7.3: not idle in a frame", x.m.Idle(), false)
	x = idlePair(t)
	x.ask(f123())
	sameEvents(t, "P7.3: idle, its own 0", x.step('0'), start())
	same(t, "P7.3: it is the sender", x.m.Cancel() || x.m.Idle() || !x.m.Busy(), false)
}

// P7.3: a frame sent well, and how it ends; one sent badly ahead of it costs one less then.
func TestSends(t *testing.T) {
	for _, f := range someFrames() {
		x := idlePair(t)
		x.failOnce()
		same(t, "P7.3: counted", x.m.Counts(), api.Counts{Sent: 8})
		x.feed("111111" + quiet)
		x.ask(f)
		row := code.Acked(f)
		sameEvents(t, "P7.3: the first bit", x.step(row[0]), start())
		x.quiet(row[1 : len(row)-1])
		same(t, "P7.3: busy to the last", x.m.Busy(), true)
		sameEvents(t, "P7.3: the last bit", x.step(row[len(row)-1]), sent(f))
		same(t, "P7.3: counted", x.m.Counts(), api.Counts{Sent: 7})
		same(t, "P7.3: behind it", x.m.Idle() || x.m.Busy(), false)
		x.quiet("11")
		same(t, "P7.3: pausing", x.m.Idle(), false)
		x.quiet("1")
		same(t, "P7.3: idle", x.m.Idle(), true)
	}
}

// P7.3: a 1 driven and a 0 seen, at each bit of the wire at which that can be; where it is no longer a loss is written out by hand.
func TestLoses(t *testing.T) {
	for _, c := range []struct {
		f          api.Frame
		lost, laid []int // laid: the 0 is the sixth one alike
		first      int   // the first place at which it is an error
	}{
		{f123(), []int{3, 6, 10, 11}, nil, 17},
		{api.Frame{ID: 8}, []int{5, 9, 15}, []int{5, 15}, 21},               // the last one is laid behind Arb's last bit
		{api.Frame{ID: 4}, []int{5, 10}, []int{5}, 16},                      // as many as Stuff of Arb has and one more: the next one laid stands there
		{api.Frame{ID: 0x123, RTR: true}, []int{3, 6, 10, 11, 12}, nil, 18}, // the one behind RTR is a 0
		{api.Frame{Ext: true, ID: 0x0aaaaaaa, RTR: true}, []int{2, 4, 6, 8, 10, 12, 13, 14, 16, 18, 20, 22, 24, 26, 28, 30, 32}, nil, 38},
	} {
		row := code.Encode(c.f)
		what := fmt.Sprintf("P7.3: %#v: a 0 at bit ", c.f)
		var places []int
		for at := range c.first + 1 {
			if row[at] != '1' {
				continue
			}
			places = append(places, at)
			x := idlePair(t)
			x.ask(c.f)
			x.feed(row[:at])
			told := x.step('0')
			switch {
			case at == c.first:
				sameEvents(t, what+fmt.Sprint(at), told, failed(c.f, api.ErrBit))
			case slices.Contains(c.laid, at):
				sameEvents(t, what+fmt.Sprint(at), told, lost(c.f), met(api.ErrStuff))
				same(t, what+"counted", x.m.Counts(), api.Counts{Got: 1})
				x.flags('0')
			default:
				sameEvents(t, what+fmt.Sprint(at), told, lost(c.f))
				same(t, what+"counted", x.m.Counts(), api.Counts{})
			}
			same(t, what+"busy", x.m.Busy(), false)
		}
		if !slices.Equal(places, append(slices.Clone(c.lost), c.first)) {
			t.Errorf("a test's frame %#v: 1s at %v", c.f, places)
		}
	}
}

// P7.3: it lost at each place, and goes on as whoever heard it from the beginning: it takes the other frame.
func TestLosesAndHears(t *testing.T) {
	for _, f := range someFrames() {
		row := code.Encode(f)
		arb := len(stuff.Stuff(frame.Arb(f)))
		for _, g := range someFrames() {
			if frame.Cmp(g, f) >= 0 {
				continue
			}
			other := code.Acked(g)
			at := 0
			for row[at] == other[at] {
				at++
			}
			if at >= arb {
				t.Fatalf("a test's frames %#v, %#v are unlike only at %d", f, g, at)
			}
			x := idlePair(t)
			x.ask(f)
			sameEvents(t, "P7.3: ahead of it", x.feed(other[:at]), start())
			sameEvents(t, "P7.3: lost", x.feed(other[at:at+1]), lost(f))
			x.quiet(other[at+1 : len(other)-9])
			same(t, "P7.2: it takes it", x.m.Drive(), byte('0'))
			sameEvents(t, "P7.3: got", x.feed(other[len(other)-9:]+pause), got(g))
			same(t, "P7.3: idle", x.m.Idle(), true)
		}
	}
}

// P7.3: each bit of a frame turned, as its sender sees it.
func TestFails(t *testing.T) {
	for _, f := range someFrames() {
		row, driven := code.Acked(f), code.Encode(f)
		arb, second := len(stuff.Stuff(frame.Arb(f))), len(row)-9
		for at := 1; at < len(row); at++ {
			x := idlePair(t)
			x.ask(f)
			sameEvents(t, "P7.3: ahead of it", x.feed(row[:at]), start())
			told := x.step(turn(row, at)[at])
			switch {
			case at == second:
				sameEvents(t, "P7.3: nobody took it", told, failed(f, api.ErrAck))
			case at < arb && driven[at] == '1':
				sameEvents(t, "P7.3: lost", told[:1], lost(f))
				continue
			default:
				sameEvents(t, fmt.Sprintf("P7.3: %#v: bit %d turned", f, at), told, failed(f, api.ErrBit))
			}
			same(t, "P7.3: failed, counted", x.m.Counts(), api.Counts{Sent: 8})
			same(t, "P7.3: failed, busy", x.m.Busy(), false)
			x.flags('0')
		}
	}
}

// P7.3: the ten bits behind the sum of one frame, by hand; for the sender and for whoever hears.
func TestBehindSum(t *testing.T) {
	for i, c := range []struct{ sends, hears api.Errno }{
		{api.ErrBit, api.ErrForm},
		{api.ErrAck, api.OK},
		{api.ErrBit, api.ErrForm},
		{api.ErrBit, api.ErrForm}, {api.ErrBit, api.ErrForm}, {api.ErrBit, api.ErrForm}, {api.ErrBit, api.ErrForm}, {api.ErrBit, api.ErrForm},
		{api.ErrBit, api.ErrForm}, // the sixth of the seven
		{api.ErrBit, api.OK},      // the last one
	} {
		at := 35 + i
		row := turn(took123, at)
		x := idlePair(t)
		x.ask(f123())
		sameEvents(t, fmt.Sprintf("P7.3: sender, bit %d behind the sum", i), x.feed(row[:at+1]), start(), failed(f123(), c.sends))
		x.flags('0')
		y := idlePair(t)
		told := y.feed(row[:at+1])
		switch {
		case c.hears != api.OK:
			sameEvents(t, fmt.Sprintf("P7.3: hearing, bit %d behind the sum", i), told, start(), met(c.hears))
			same(t, "P7.3: counted", y.m.Counts(), api.Counts{Got: 1})
			y.flags('0')
		case i == 1:
			sameEvents(t, "P7.3: hearing, the second bit behind the sum", told, start())
			sameEvents(t, "P7.3: it comes nevertheless", y.feed(row[at+1:]), got(f123()))
		default:
			sameEvents(t, "P7.3: hearing, the last bit a 0", told, start(), got(f123()))
			y.quiet("11")
			same(t, "P7.3: pausing", y.m.Idle(), false)
			y.quiet("1")
			same(t, "P7.3: idle", y.m.Idle(), true)
		}
	}
}

// P7.3: a frame comes at the sixth of the seven, whatever the last one is; then a pause.
func TestHears(t *testing.T) {
	for _, f := range someFrames() {
		for _, row := range []string{code.Acked(f), code.Encode(f)} {
			for _, last := range []string{"1", "0", "x"} {
				x := idlePair(t)
				x.feed("000000" + "111111" + quiet)
				same(t, "P7.3: counted", x.m.Counts(), api.Counts{Got: 1})
				sameEvents(t, "P7.3: a frame begins", x.step('0'), start())
				x.quiet(row[1 : len(row)-2])
				same(t, "P7.3: counted too early", x.m.Counts(), api.Counts{Got: 1})
				sameEvents(t, "P7.3: the sixth of the seven", x.step('1'), got(f))
				same(t, "P7.3: counted", x.m.Counts(), api.Counts{})
				x.quiet(last)
				same(t, "P7.3: behind the last bit", x.m.Idle(), false)
				x.quiet("11")
				same(t, "P7.3: pausing", x.m.Idle(), false)
				x.quiet("1")
				same(t, "P7.3: idle", x.m.Idle(), true)
			}
		}
	}
}

// P7.3: each bit turned, as whoever hears sees it: the error of code's Decode, at its place.
func TestHearsErrors(t *testing.T) {
	seen := map[api.Errno]int{}
	for _, f := range someFrames() {
		for at := 1; at < code.Len(f)-1; at++ {
			row := turn(code.Acked(f), at) + strings.Repeat("1", 200)
			_, place, e := code.Decode(row)
			if e == api.OK {
				continue
			}
			seen[e]++
			x := idlePair(t)
			sameEvents(t, "P7.3: ahead of it", x.feed(row[:place]), start())
			sameEvents(t, fmt.Sprintf("P7.3: %#v: bit %d turned", f, at), x.step(row[place]), met(e))
			same(t, "P7.3: counted", x.m.Counts(), api.Counts{Got: 1})
			x.flags('0')
		}
	}
	for _, e := range []api.Errno{api.ErrForm, api.ErrStuff, api.ErrCRC} {
		if seen[e] == 0 {
			t.Errorf("P7.3: %d is met nowhere", e)
		}
	}
}

// P7.3: errors written out by hand, each with its last bit.
func TestHearsErrorsByHand(t *testing.T) {
	for row, e := range map[string]api.Errno{
		"000000":                           api.ErrStuff,
		"0111111":                          api.ErrStuff,
		"0" + "00100100011" + "01":         api.ErrForm, // Ext, and a 0 behind the first 11
		part123 + "0":                      api.ErrForm,
		part123 + "1" + "0" + "0":          api.ErrForm,
		part123[:34] + "1" + "1" + "11":    api.ErrCRC,
		part123[:34] + "1" + "1" + "01":    api.ErrCRC,
		part123[:34] + "1" + "1" + "00":    api.ErrForm,
		part123[:34] + "1" + "0":           api.ErrForm, // ahead of the place at which another sum is met
		part123 + "1" + "0" + "1" + "1110": api.ErrForm,
		// of 9: a 1 is laid behind the sum's last bit, of 17 a 0
		"0000010001001" + "00000100" + "111110000011000000": api.ErrStuff,
		"0000010010111" + "00000100" + "1010010000111111":   api.ErrStuff,
	} {
		x := idlePair(t)
		sameEvents(t, "P7.3: ahead of the last bit of "+row, x.feed(row[:len(row)-1]), start())
		sameEvents(t, "P7.3: the last bit of "+row, x.feed(row[len(row)-1:]), met(e))
		x.flags('0')
	}
}

// P7.3: the bit laid behind the sum's last one is the sender's as well as any other.
func TestLaidBehindSum(t *testing.T) {
	for id, part := range map[uint32]string{
		9:    "0000010001001" + "00000100" + "111110000011000001",
		0x17: "0000010010111" + "00000100" + "1010010000111110",
	} {
		f := api.Frame{ID: id}
		x, y := idlePair(t), idlePair(t)
		x.ask(f)
		for i := range len(part) + 10 {
			level := strongest([]*pair{x, y})
			want := (part + "1011111111")[i]
			same(t, fmt.Sprintf("P7.2: %#v, bit %d", f, i), level, want)
			x.step(level)
			y.step(level)
		}
		x = idlePair(t)
		x.ask(f)
		sameEvents(t, "P7.3: the laid bit turned", x.feed(turn(part, len(part)-1)), start(), failed(f, api.ErrBit))
	}
}

// P7.3: the flag of one that isn't passive, of one that is by what it sent, of one that is by what came; whatever is on the wire meanwhile.
func TestFlags(t *testing.T) {
	for _, levels := range []string{"000000", "111111", "010101", "100000"} {
		for drive, x := range map[byte]*pair{'0': idlePair(t), '1': passivePair(t, false)} {
			x.feed("000000")
			for i := range 6 {
				same(t, fmt.Sprintf("P7.2: flagging, bit %d", i), x.m.Drive(), drive)
				x.quiet(levels[i : i+1])
			}
			same(t, "P7.2: recovering", x.m.Drive(), byte('1'))
			x.quiet("0" + quiet[1:])
			same(t, "P7.3: recovering from the first 1 on", x.m.Idle(), false)
			x.quiet("1")
			same(t, "P7.3: idle", x.m.Idle(), true)
		}
	}
	for _, bySent := range []bool{true, false} {
		x := passivePair(t, bySent)
		x.failOnce()
		x.flags('1')
		x.feed("000000")
		x.flags('1')
	}
}

// P7.3: at which count a flag is no longer driven, and that it is driven again.
func TestPassive(t *testing.T) {
	x := idlePair(t)
	for n := 1; n <= 16; n++ {
		sameEvents(t, "P7.3: alone", x.failOnce(), start(), failed(f123(), api.ErrAck))
		same(t, "P7.3: counted", x.m.Counts(), api.Counts{Sent: 8 * n})
		same(t, fmt.Sprintf("P7.2: flagging, failed %d times", n), x.m.Drive() == '1', n == 16)
		x.feed("111111" + quiet)
	}
	x.ask(f123())
	x.feed(took123 + pause) // 127
	x.feed("000000")
	same(t, "P7.2: no longer passive by what it sent", x.m.Drive(), byte('0'))

	x = idlePair(t)
	for n := 1; n <= 130; n++ {
		sameEvents(t, "P7.3: six alike", x.feed("000000"), start(), met(api.ErrStuff))
		same(t, "P7.3: counted", x.m.Counts(), api.Counts{Got: n})
		same(t, fmt.Sprintf("P7.2: flagging, %d came badly", n), x.m.Drive() == '1', n >= 128)
		x.feed("111111" + quiet)
	}
	x.feed(took123 + pause)
	same(t, "P7.3: counted", x.m.Counts(), api.Counts{Got: 120})
	x.feed("000000")
	same(t, "P7.2: no longer passive by what came", x.m.Drive(), byte('0'))
}

// P7.3: the thirty-second failure, and nothing behind it.
func TestOff(t *testing.T) {
	x := idlePair(t)
	for range 31 {
		sameEvents(t, "P7.3: not off yet", x.failOnce(), start(), failed(f123(), api.ErrAck))
		x.feed("111111" + quiet)
	}
	same(t, "P7.3: counted", x.m.Counts(), api.Counts{Sent: 248})
	sameEvents(t, "P7.3: off", x.failOnce(), start(), failed(f123(), api.ErrAck), isOff())
	same(t, "P7.3: counted", x.m.Counts(), api.Counts{Sent: 256})
	for range 3 {
		for i, level := range []byte("000000" + strings.Repeat("1", 100) + took123 + pause + took123) {
			if x.m.Drive() != '1' || x.m.Idle() || x.m.Busy() || x.m.Cancel() || x.m.Ask(f123()) != api.ErrOff {
				t.Fatalf("P7.3: off, bit %d: not for ever", i)
			}
			sameEvents(t, "P7.3: off", x.step(level))
		}
	}
	same(t, "P7.3: counted no more", x.m.Counts(), api.Counts{Sent: 256})

	x = idlePair(t) // by another error than ErrAck
	for n := 1; n <= 32; n++ {
		x.ask(f123())
		told := x.feed(turn(took123, 20)[:21])
		if n < 32 {
			sameEvents(t, "P7.3: another bit", told, start(), failed(f123(), api.ErrBit))
			x.feed("111111" + quiet)
		} else {
			sameEvents(t, "P7.3: another bit, off", told, start(), failed(f123(), api.ErrBit), isOff())
		}
	}
	x = idlePair(t) // whoever only hears is never off
	for n := 1; n <= 1100; n++ {
		sameEvents(t, "P7.3: heard badly", x.feed("000000"), start(), met(api.ErrStuff))
		same(t, "P7.3: counted", x.m.Counts(), api.Counts{Got: min(n, 1000)})
		x.feed("111111" + quiet)
	}
}

// P7.3: the first 1, then seven in a row; a 0 ahead of the first 1 is nothing, behind it the seven begin again.
func TestRecovers(t *testing.T) {
	for _, levels := range []string{
		"1" + "1111111", "0" + "1" + "1111111", "000000000000" + "1" + "1111111",
		"1" + "0" + "1111111", "1" + "1" + "0" + "1111111", "1" + "111111" + "0" + "1111111",
		"1" + "0000" + "1111111", "1" + "1110" + "1110" + "0" + "1111110" + "1111111", "0010" + "1111111",
	} {
		x := idlePair(t)
		x.feed("000000" + "111111")
		for i := range len(levels) {
			same(t, "P7.2: recovering", x.m.Drive(), byte('1'))
			x.quiet(levels[i : i+1])
		}
		same(t, "P7.3: pausing", x.m.Idle(), false)
		y := x.copy()
		x.quiet("11")
		same(t, "P7.3: pausing still", x.m.Idle(), false)
		x.quiet("1")
		same(t, "P7.3: idle", x.m.Idle(), true)
		sameEvents(t, "P7.3: in the pause behind "+levels, y.feed("0"), start())
	}
}

// P7.3: no frame begins while it recovers, with however many 1s ahead of it.
func TestRecoversNoStart(t *testing.T) {
	for ones := range 8 {
		x := idlePair(t)
		x.feed("000000" + "111111")
		x.quiet(strings.Repeat("1", ones) + "0")
		x.quiet("0000000000")
	}
	x := idlePair(t)
	x.feed("000000" + "111111")
	sameEvents(t, "P7.3: behind the eighth", x.feed("11111111"+"0"), start())
}

// P7.3: a 0 at each bit of a pause: a frame, which it doesn't send.
func TestPauses(t *testing.T) {
	for _, ahead := range []string{"", "1", "11"} {
		for name, x := range map[string]*pair{"new": newPair(t), "behind a frame": idlePair(t), "behind a flag": idlePair(t)} {
			switch name {
			case "behind a frame":
				x.feed(took123)
			case "behind a flag":
				x.feed("000000" + "111111" + "11111111")
			}
			g := api.Frame{ID: 0x7ff, Data: "waits"}
			x.ask(g)
			x.quiet(ahead)
			same(t, "P7.2: pausing", x.m.Drive(), byte('1'))
			sameEvents(t, "P7.3: pausing "+name+ahead+", a 0", x.feed("0"), start())
			same(t, "P7.3: what waits waits on", x.m.Busy(), true)
			sameEvents(t, "P7.3: heard", x.feed(took123[1:]), got(f123()))
			x.quiet(pause)
			sameEvents(t, "P7.3: then sent", x.feed(code.Acked(g)), start(), sent(g))
		}
	}
}

// P7.3: a frame that waits may go while another one is heard.
func TestCancelInAnothersFrame(t *testing.T) {
	x := newPair(t)
	x.ask(api.Frame{ID: 1})
	x.feed("1" + took123[:20])
	same(t, "P7.1: Cancel", x.cancel(), true)
	sameEvents(t, "P7.3: heard to its end", x.feed(took123[20:]+pause), got(f123()))
	same(t, "P7.2: nothing waits", x.m.Drive(), byte('1'))
}

// P7.3: what is told is new memory.
func TestEventsOfTheirOwn(t *testing.T) {
	x := idlePair(t)
	x.ask(api.Frame{ID: 8})
	x.feed("00000" + "1" + "000" + "1" + "00000")
	m := x.m.Copy()
	first := m.Sample('0')
	sameEvents(t, "P7.3: lost and wrong", first, lost(api.Frame{ID: 8}), met(api.ErrStuff))
	for i := range first[:cap(first)] {
		first[:cap(first)][i] = api.Event{Kind: 99}
	}
	sameEvents(t, "P7.3: the same once more", x.m.Sample('0'), lost(api.Frame{ID: 8}), met(api.ErrStuff))
	for i := range m.Sample('1') {
		t.Errorf("P7.3: flagging, event %d", i)
	}
}

// P7.3: a copy and what it was made of, in each state: what is asked of one is not asked of the other, and each sees its own bits.
func TestCopy(t *testing.T) {
	all := states(t)
	all["off"] = offPair(t)
	waits := newPair(t)
	waits.ask(f123())
	all["pausing, a frame waits"] = waits
	sends := idlePair(t)
	sends.ask(f123())
	sends.feed(sent123[:15])
	all["sending"] = sends
	for name, x := range all {
		m, c := x.m, x.m.Copy()
		if m == c || c.Drive() != m.Drive() || c.Idle() != m.Idle() || c.Busy() != m.Busy() || c.Counts() != m.Counts() {
			t.Errorf("P7.3: %s: a copy unlike what it was made of", name)
		}
		busy := m.Busy()
		c.Ask(api.Frame{ID: 3})
		same(t, "P7.3: "+name+": a copy's Ask", m.Busy(), busy)
		c.Cancel()
		same(t, "P7.3: "+name+": a copy's Cancel", m.Busy(), busy)
		for range 3 { // the copy's ways are others
			y, z := x.copy(), x.copy()
			for range 40 {
				y.step('0')
				z.step('1')
				x.look("a copy's step")
			}
		}
		y := x.copy()
		for range 40 {
			x.step('1')
			y.look("the first one's step")
		}
		y.feed(strings.Repeat("1", 40) + took123)
	}
}

// together: the bits that these nodes make of one wire.
func together(nodes []*pair, bitTimes int, told func(who int, e api.Event)) string {
	row := ""
	for range bitTimes {
		level := strongest(nodes)
		row += string(level)
		for who, x := range nodes {
			for _, e := range x.step(level) {
				told(who, e)
			}
		}
	}
	return row
}

// P7.4: three that begin at once; who loses asks anew. One after the other they go, by their order, and the wire has each frame bit by bit.
func TestThreeAtOnce(t *testing.T) {
	r := rand.New(rand.NewSource(74))
	for range 150 {
		fs := []api.Frame{some(r), some(r), some(r)}
		if frame.Cmp(fs[0], fs[1]) == 0 || frame.Cmp(fs[0], fs[2]) == 0 || frame.Cmp(fs[1], fs[2]) == 0 {
			continue
		}
		nodes := []*pair{newPair(t), newPair(t), newPair(t), newPair(t)} // the last one hears alone
		for i, f := range fs {
			nodes[i].ask(f)
		}
		order := slices.SortedFunc(slices.Values(fs), frame.Cmp)
		want := ""
		for _, f := range order {
			want += pause + code.Acked(f)
		}
		var out []api.Frame
		in := make([][]api.Frame, len(nodes))
		row := together(nodes, len(want), func(who int, e api.Event) {
			switch e.Kind {
			case api.ESent:
				out = append(out, e.F)
				in[who] = append(in[who], e.F)
			case api.EGot:
				in[who] = append(in[who], e.F)
			case api.ELost:
				same(t, "P7.4: lost", e.F, fs[who])
				nodes[who].ask(e.F)
			case api.EStart:
			default:
				t.Errorf("P7.4: %v: node %d: %v", fs, who, e)
			}
		})
		same(t, fmt.Sprintf("P7.4: %v: the wire", fs), row, want)
		if !slices.Equal(out, order) {
			t.Errorf("P7.4: sent %v, want %v", out, order)
		}
		for who, x := range nodes {
			if !slices.Equal(in[who], order) || x.m.Counts() != (api.Counts{}) || x.m.Busy() {
				t.Errorf("P7.4: node %d: %v, want %v; %v", who, in[who], order, x.m.Counts())
			}
		}
	}
}

// P7.4: frames by hand, each ahead of all behind it.
func TestOrderOnTheWire(t *testing.T) {
	fs := []api.Frame{
		{}, {RTR: true}, {Ext: true}, {Ext: true, RTR: true}, {Ext: true, ID: 1}, {Ext: true, ID: 1<<18 - 1, RTR: true},
		{ID: 1, Data: "x"}, {ID: 8}, {ID: 0x10}, {ID: 0x7f0}, {ID: 0x7ff}, {ID: 0x7ff, RTR: true}, {Ext: true, ID: 1<<29 - 1}, {Ext: true, ID: 1<<29 - 1, RTR: true},
	}
	for i, f := range fs {
		for _, g := range fs[i+1:] {
			nodes := []*pair{newPair(t), newPair(t), newPair(t)}
			nodes[1].ask(f)
			nodes[0].ask(g)
			told := make([][]api.Event, 3)
			row := together(nodes, 3+code.Len(f), func(who int, e api.Event) { told[who] = append(told[who], e) })
			same(t, "P7.4: the wire", row, pause+code.Acked(f))
			sameEvents(t, "P7.4: who goes on", told[1], start(), sent(f))
			sameEvents(t, "P7.4: who steps aside", told[0], start(), lost(g), got(f))
			sameEvents(t, "P7.4: who hears", told[2], start(), got(f))
		}
	}
}

// P7.4: the same frame from two at once is one frame on the wire; the same identifier with other bytes is an error of whoever drove the 1.
func TestTwoAlike(t *testing.T) {
	nodes := []*pair{newPair(t), newPair(t), newPair(t)}
	nodes[0].ask(f123())
	nodes[1].ask(f123())
	told := make([][]api.Event, 3)
	row := together(nodes, 3+len(took123), func(who int, e api.Event) { told[who] = append(told[who], e) })
	same(t, "P7.4: the wire", row, pause+took123)
	sameEvents(t, "P7.4: one", told[0], start(), sent(f123()))
	sameEvents(t, "P7.4: the other", told[1], start(), sent(f123()))
	sameEvents(t, "P7.4: who hears", told[2], start(), got(f123()))

	nodes = []*pair{newPair(t), newPair(t), newPair(t)}
	a, b := api.Frame{ID: 0x155, Data: "\x55"}, api.Frame{ID: 0x155, Data: "\x5d"}
	nodes[0].ask(a)
	nodes[1].ask(b)
	told = make([][]api.Event, 3)
	together(nodes, 60, func(who int, e api.Event) { told[who] = append(told[who], e) })
	sameEvents(t, "P7.3: it drove the 1", told[1], start(), failed(b, api.ErrBit))
	sameEvents(t, "P7.3: it drove the 0", told[0], start(), failed(a, api.ErrBit))
	sameEvents(t, "P7.3: who hears", told[2], start(), met(api.ErrStuff))
}

// P7.4: one alone: nobody takes its frame.
func TestAlone(t *testing.T) {
	x := newPair(t)
	x.ask(f123())
	var told []api.Event
	row := together([]*pair{x}, 3+37+6+8+3, func(_ int, e api.Event) { told = append(told, e) })
	same(t, "P7.3: the wire", row, pause+sent123[:37]+"000000"+quiet)
	sameEvents(t, "P7.3: alone", told, start(), failed(f123(), api.ErrAck))
	same(t, "P7.3: idle", x.m.Idle(), true)
}

// P7.4: a bit turned at each place of a frame between two: all are idle together in the end, and the frame goes then.
func TestTurnedOnTheWire(t *testing.T) {
	for _, f := range []api.Frame{f123(), {ID: 9}, {ID: 0x17}, {Ext: true, ID: 0x0aaaaaaa, RTR: true}} {
		for at := range code.Len(f) {
			nodes := []*pair{idlePair(t), idlePair(t), idlePair(t)}
			nodes[0].ask(f)
			for i := range 200 {
				level := strongest(nodes)
				if i == at {
					level ^= '0' ^ '1'
				}
				for _, x := range nodes {
					x.step(level)
				}
			}
			for who, x := range nodes {
				if !x.m.Idle() {
					t.Errorf("P7.4: %#v, bit %d turned: node %d isn't idle", f, at, who)
				}
			}
			if nodes[0].m.Busy() {
				t.Errorf("P7.4: %#v, bit %d turned: tried more than once", f, at)
			}
			nodes[0].ask(f)
			var got []api.Event
			together(nodes, code.Len(f), func(who int, e api.Event) {
				if e.Kind == api.EGot || e.Kind == api.ESent {
					got = append(got, e)
				}
			})
			same(t, fmt.Sprintf("P7.4: %#v, bit %d turned, sent anew", f, at), len(got), 3)
		}
	}
}
