package node

import (
	"fmt"
	"math"
	"math/rand"
	"slices"
	"strings"
	"sync"
	"testing"

	"ostinato/api"
	"ostinato/code"
	"ostinato/config"
	"ostinato/matrix"
	"ostinato/refmsg"
)

// The limits and numbers of the document, written out.
const (
	mostEvents   = 100
	mostMessages = 12
	mostNodes    = 8
	mostStatus   = 7
	mostTicks    = 8
	rightTicks   = 4

	exclusive, arbitrating, free  = 1, 2, 3
	send, arb, get, ref, watching = 1, 2, 3, 4, 5
	waiting, syncing, inStep      = 0, 1, 2
	s0, s1, s2, s3                = 0, 1, 2, 3
)

// far: numbers of which sums and differences have no room in an int, and ones that would be near if but their low bits were looked at.
var far = []int{math.MinInt, math.MinInt + 1, -1 << 40, -1 << 32, -1<<32 + 2, -65536, -256, 256, 65537, 1 << 32, 1<<32 + 2, 1 << 40, math.MaxInt - 1, math.MaxInt}

// fine: a matrix of which a unit is a bit of a right clock. Its Step is 157: 140 units and 1 of a frame, 16 of Enable.
func fine() api.Matrix {
	return api.Matrix{
		Level: 2, Nodes: 4, Cycles: 4, Length: 840, Enable: 16, Unit: 4, Init: 30, Ref: 0x80,
		Masters:  []int{3, 1},
		Messages: []api.Message{{ID: 0x101, Owner: 1}, {ID: 0x102, Owner: 1, Event: true}, {ID: 0x103, Owner: 2}, {ID: 0x104, Owner: 2, Event: true}, {ID: 0x90, Owner: 1}},
		Windows: []api.Window{
			{Kind: exclusive, Start: 200, End: 370, Repeat: 1},
			{Kind: arbitrating, Start: 370, End: 640, Repeat: 1},
			{Kind: exclusive, Start: 640, End: 800, Cycle: 1, Repeat: 2, Msg: 2},
			{Kind: free, Start: 800, End: 830, Repeat: 1},
		},
	}
}

// When nodes of fine do what, in units.
const (
	fineStep = 157

	fineSend     = 200
	fineSendOver = 217 // behind Until
	fineGet      = 369
	fineArb      = 370
	fineArbOver  = 484
	fineOther    = 799 // message 2 should have come, in cycles 1, 3 ..
	fineLead     = 840
	fineFirst    = 997  // of rank 0: node 3
	fineSecond   = 1154 // of rank 1: node 1
	fineWatch    = 1468

	firstWaits  = 187 // Init, and a Step
	secondWaits = 344
)

// slow: a matrix of which a unit is 16 bits of a right clock, so that a frame is over while a window is open. Its Step is 26.
func slow() api.Matrix {
	m := fine()
	m.Unit, m.Length, m.Init = 64, 130, 5
	m.Windows = []api.Window{
		{Kind: exclusive, Start: 30, End: 56, Repeat: 1},
		{Kind: arbitrating, Start: 60, End: 100, Repeat: 1},
		{Kind: exclusive, Start: 100, End: 126, Cycle: 1, Repeat: 2, Msg: 2},
	}
	return m
}

const (
	slowSend     = 30
	slowSendOver = 47
	slowArb      = 60
	slowArbOver  = 75
)

func ofMessage(msg int, data string) api.Frame {
	return api.Frame{ID: fine().Messages[msg].ID, Data: data}
}

// another is a frame that is neither a beat's nor a message's, and wins against all of them.
func another() api.Frame { return api.Frame{ID: 0x40, Data: "busy"} }

func same(t *testing.T, what string, got, want any) {
	t.Helper()
	if got != want {
		t.Errorf("%s: %v, want %v", what, got, want)
	}
}

// ask hands a frame to the mac alone, as if something else of the node had.
func (x *pair) ask(f api.Frame) {
	x.t.Helper()
	same(x.t, "P7.1: a frame", x.n.mac.Ask(f), x.p.mac.Ask(f))
}

// bad counts a message up, as if it had failed.
func (x *pair) bad(msg, times int) {
	for range times {
		x.n.counters.Bad(msg)
		x.p.bad(msg)
	}
}

func (x *pair) silence() { x.n.silent, x.p.silent = true, true }

// switchOff lets the mac fail until it is off, while time stands.
func (x *pair) switchOff() {
	x.t.Helper()
	for !x.p.off {
		x.ask(api.Frame{})
		for _, bit := range []byte("01" + strings.Repeat("1", 17)) {
			x.end(bit)
		}
	}
}

func (x *pair) build(rank, cycle int, global uint16, disc bool) api.Frame {
	x.t.Helper()
	f, ok := refmsg.Build(x.p.m, rank, cycle, global, disc)
	if !ok {
		x.t.Fatalf("P21.1: no beat of rank %d, cycle %d", rank, cycle)
	}
	return f
}

// frame lays a frame that others send and take, and the pause behind it.
func (x *pair) frame(f api.Frame) {
	x.t.Helper()
	x.lay(code.Acked(f) + "111")
}

func (x *pair) beat(rank, cycle int, global uint16, disc bool) {
	x.t.Helper()
	x.frame(x.build(rank, cycle, global, disc))
}

// soon is the time within the cycle behind one more Tick.
func (x *pair) soon() int { return x.p.at() + (x.p.part+x.ticks*256)/x.p.num }

// to lays ones up to the bit ahead of the one in which that unit of the cycle comes.
func (x *pair) to(at int) {
	x.t.Helper()
	for x.p.begun && x.soon() < at {
		x.ones(1)
	}
	if !x.p.begun || x.p.at() >= at {
		x.t.Fatalf("P24.2: unit %d isn't to come any more: %t, %d", at, x.p.begun, x.p.at())
	}
}

// quiet tells whether the node drives nothing while others don't either.
func (x *pair) quiet(what string, bits int) {
	x.t.Helper()
	from := len(x.drove)
	x.ones(bits)
	if at := strings.IndexByte(string(x.drove[from:]), '0'); at >= 0 {
		x.t.Errorf("%s: a 0 at bit %d of %d", what, at, bits)
	}
}

// sends lays a wire on which others take what the node sends: f, from this bit on.
func (x *pair) sends(what string, f api.Frame) {
	x.t.Helper()
	row, from := code.Encode(f), len(x.drove)
	x.lay(strings.Repeat("1", len(row)-9) + "0" + strings.Repeat("1", 8))
	if got := string(x.drove[from:]); got != row {
		x.t.Errorf("%s: drove %s, want %s", what, got, row)
	}
	x.ones(3)
}

// zeroAt is at which bit from here on, counted from 1, the node drives a 0 first; 0: at none of them.
func (x *pair) zeroAt(most int) int {
	x.t.Helper()
	for i := range most {
		x.ones(1)
		if x.drove[len(x.drove)-1] == '0' {
			return i + 1
		}
	}
	return 0
}

func (x *pair) openIs(what string, kind int) {
	x.t.Helper()
	open, ok := x.n.sched.Open()
	if open.Kind != kind || ok != (kind != 0) {
		x.t.Errorf("P24.2: %s: open: %v, %t, want kind %d", what, open, ok, kind)
	}
}

func (x *pair) countersAre(what string, want ...int) {
	x.t.Helper()
	for msg := range x.p.m.Messages {
		if got := x.n.Counter(msg); got != append(want, 0, 0, 0, 0, 0)[msg] {
			x.t.Errorf("%s: Counter(%d): %d, want %v", what, msg, got, want)
		}
	}
}

func (x *pair) confirmedIs(what string, want ...int) {
	x.t.Helper()
	if got := x.n.Confirmed(); !slices.Equal(got, want) {
		x.t.Errorf("%s: Confirmed: %v, want %v", what, got, want)
	}
}

func (x *pair) deliveredIs(what string, want ...api.Delivery) {
	x.t.Helper()
	if got := x.n.Deliveries(); !slices.Equal(got, want) {
		x.t.Errorf("%s: Deliveries: %v, want %v", what, got, want)
	}
}

// syncs is a node to which one beat of rank 0 came: it is in that cycle.
func syncs(t *testing.T, m api.Matrix, who, cycle int) *pair {
	t.Helper()
	x := newPair(t, m, who)
	x.ones(5)
	x.beat(0, cycle, 1000, true)
	return x
}

// follows is a node that two beats of rank 0 made in time: it is in that cycle.
func follows(t *testing.T, m api.Matrix, who, cycle int) *pair {
	t.Helper()
	x := syncs(t, m, who, (cycle+3)%4)
	x.beat(0, cycle, 1000+uint16(x.p.at()), false)
	same(t, "P24.3: behind two beats", x.n.Status(), api.Status{State: inStep, Cycle: cycle, Master: x.p.rank() == 0})
	return x
}

func TestLimits(t *testing.T) {
	same(t, "MaxEvents", api.MaxEvents, mostEvents)
	same(t, "MaxMessages", api.MaxMessages, mostMessages)
	same(t, "MaxNodes", api.MaxNodes, mostNodes)
	same(t, "MaxStatus", api.MaxStatus, mostStatus)
	same(t, "MaxTicks", api.MaxTicks, mostTicks)
	same(t, "Nominal", api.Nominal, rightTicks)
	same(t, "states", [3]int{api.Waiting, api.Syncing, api.InTime}, [3]int{waiting, syncing, inStep})
	same(t, "levels", [4]int{api.S0, api.S1, api.S2, api.S3}, [4]int{s0, s1, s2, s3})
	same(t, "triggers", [5]int{api.TSend, api.TArb, api.TGet, api.TRef, api.TWatch}, [5]int{send, arb, get, ref, watching})
	same(t, "ErrConfig", api.ErrConfig, api.Errno(130))
}

// wrongOnes are nodes that are wrong, each by one thing.
func wrongOnes() map[string]*Node {
	nodes := map[string]*Node{}
	refuse := func(what string, change func(m *api.Matrix)) {
		m := fine()
		change(&m)
		nodes[what] = New(config.Print(m), 1)
	}
	refuse("Level", func(m *api.Matrix) { m.Level = 3 })
	refuse("Length", func(m *api.Matrix) { m.Length, m.Windows = fineStep-1, nil })
	refuse("a master that is no node", func(m *api.Matrix) { m.Masters[0] = 4 })
	refuse("an owner that is no node", func(m *api.Matrix) { m.Messages[4].Owner = 4 })
	refuse("a master twice", func(m *api.Matrix) { m.Masters[0] = 1 })
	refuse("an ID twice", func(m *api.Matrix) { m.Messages[4].ID = 0x101 })
	refuse("a beat's ID", func(m *api.Matrix) { m.Messages[4].ID = 0x87 })
	refuse("no such message", func(m *api.Matrix) { m.Windows[2].Msg = 5 })
	refuse("an event's window", func(m *api.Matrix) { m.Windows[2].Msg = 3 })
	refuse("no room", func(m *api.Matrix) { m.Windows[0].Start = fineStep - 1 })
	refuse("windows upon one another", func(m *api.Matrix) { m.Windows[1].Start-- })
	text := config.Print(fine())
	for what, b := range map[string]string{"no text": "", "a word": "what", "a text cut off": text[:len(text)-1], "a byte more": text + "\x00", "another letter": "o" + text[1:], "a long text": strings.Repeat(text, 100)} {
		nodes[what] = New(b, 1)
	}
	for _, who := range append([]int{-2, -1, 4, 5, mostNodes - 1, mostNodes, 99}, far...) {
		nodes[fmt.Sprintf("node %d", who)] = New(text, who)
	}
	return nodes
}

// wrongIs holds a node to all that is told of a wrong one.
func wrongIs(t *testing.T, what string, n *Node) {
	t.Helper()
	same(t, "P24.1: "+what+": Status", n.Status(), api.Status{Level: s3})
	same(t, "P24.4: "+what+": Global", n.Global(), uint16(0))
	same(t, "P24.1: "+what+": Drive", n.Drive(), byte('1'))
	if cycle, at, ok := n.Time(); cycle != 0 || at != 0 || ok {
		t.Errorf("P24.4: %s: Time: %d, %d, %t", what, cycle, at, ok)
	}
	if n.Mac() != nil || len(n.Deliveries()) != 0 || len(n.Confirmed()) != 0 {
		t.Errorf("P24.4: %s: Mac %v, Deliveries %v, Confirmed %v", what, n.Mac(), n.Deliveries(), n.Confirmed())
	}
	for _, msg := range append([]int{-1, 0, 1, 2, 3, 4, 5, mostMessages}, far...) {
		for _, data := range []string{"", "on", "12345678", "123456789"} {
			same(t, "P24.1: "+what+": Send", n.Send(msg, data), api.Errno(130))
		}
		if data, ok := n.Read(msg); data != "" || ok || n.Counter(msg) != 0 {
			t.Errorf("P24.4: %s: Read(%d): %q, %t, Counter %d", what, msg, data, ok, n.Counter(msg))
		}
	}
}

func TestWrong(t *testing.T) {
	beat, _ := refmsg.Build(fine(), 0, 2, 500, false)
	row := strings.Repeat("1", 400) + code.Acked(beat) + "111" + code.Acked(beat) + "111" + code.Acked(ofMessage(2, "on")) + strings.Repeat("1", 1600)
	for what, n := range wrongOnes() {
		wrongIs(t, what+", new", n)
		wrongIs(t, what+", a copy", n.Copy())
		for i := range len(row) {
			n.Tick(i % 10)
			if n.Drive() != '1' {
				t.Fatalf("P24.1: %s: bit %d: a 0", what, i)
			}
			n.Sample(row[i])
			if i%100 == 0 {
				wrongIs(t, what, n)
			}
		}
		wrongIs(t, what+", behind all", n)
		wrongIs(t, what+", behind all, a copy", n.Copy().Copy())
	}
}

// P24.1: each node of a matrix is one, and the first that isn't is wrong.
func TestNew(t *testing.T) {
	for nodes := 1; nodes <= mostNodes; nodes++ {
		m := api.Matrix{Level: 1, Nodes: nodes, Cycles: 1, Length: 200, Enable: 1, Unit: 64, Masters: []int{nodes - 1}}
		for who := range nodes {
			x := newPair(t, m, who)
			same(t, fmt.Sprintf("P24.1: node %d of %d", who, nodes), x.n.Status(), api.Status{})
			if x.n.Mac() == nil || x.n.Mac().Idle() || x.n.Mac().Busy() {
				t.Errorf("P24.1: node %d of %d: its mac", who, nodes)
			}
			x.ones(3)
			same(t, "P24.1: a mac that is new pauses for three bits", x.n.Mac().Idle(), true)
		}
		wrongIs(t, "the first that isn't", New(config.Print(m), nodes))
	}
}

// P24.1: the clock is of the matrix's Unit; without a beat the time for all is its time.
func TestUnits(t *testing.T) {
	for unit := 1; unit <= 64; unit++ {
		m := fine()
		m.Unit, m.Enable, m.Length, m.Windows = unit, 1, 600, nil
		x := newPair(t, m, 0)
		for i := 1; i <= 200; i++ {
			x.ones(1)
			if got := x.n.Global(); int(got) != 4*i/unit {
				t.Fatalf("P24.1: Unit %d: %d behind %d bits", unit, got, i)
			}
		}
	}
}

// P24.2: the wait, told from bits and ticks alone: one unit below it there is nothing.
func TestWait(t *testing.T) {
	for _, unit := range []int{1, 3, 4, 16, 64} {
		for _, begins := range []int{0, 1, 33, 700} {
			for _, ticks := range []int{1, 4, 7, 8} {
				for who := range 5 {
					m := fine()
					m.Nodes, m.Unit, m.Init, m.Length, m.Windows, m.Masters = 5, unit, begins, 2000, nil, []int{2, 0, 4, 1}
					what := fmt.Sprintf("P24.2: Unit %d, Init %d, %d ticks, node %d", unit, begins, ticks, who)
					x := newPair(t, m, who)
					x.ticks = ticks
					rank := slices.Index(m.Masters, who)
					units := begins + (rank+1)*((560+unit-1)/unit+1+16)
					bits := (units*unit + ticks - 1) / ticks
					if rank < 0 {
						x.quiet(what, min(bits*6+200, 6000))
						continue
					}
					x.quiet(what, bits-1)
					if got := x.zeroAt(1); got != 1 {
						t.Errorf("%s: nothing behind %d units", what, units)
					}
				}
			}
		}
	}
}

// P24.2: the same, by numbers written out.
func TestWaitByHand(t *testing.T) {
	for who, want := range []int{0, secondWaits, 0, firstWaits} {
		x := newPair(t, fine(), who)
		same(t, fmt.Sprintf("P24.2: node %d: first 0 at bit", who), x.zeroAt(5000), want)
	}
}

// P24.2: a beat that is asked where there is no cycle: cycle 0, a step, its own time.
func TestFirstBeat(t *testing.T) {
	for who, want := range map[int]api.Frame{3: {ID: 0x80, Data: "\x00\x01\x00\xbb"}, 1: {ID: 0x81, Data: "\x00\x01\x01\x58"}} {
		x := newPair(t, fine(), who)
		x.ones(int(want.Data[2])*256 + int(want.Data[3]) - 1)
		x.sends("P24.2: the first beat", want)
		same(t, "P24.3: its own beat went out", x.n.Status(), api.Status{State: inStep, Master: true})
		cycle, at, ok := x.n.Time()
		same(t, "P24.3: the cycle began at its first bit", [3]any{cycle, at, ok}, [3]any{0, code.Len(want) - 1 + 3, true})
	}
}

// P24.2, P24.3: a master alone drives its beats until it is off: nobody takes them.
func TestAlone(t *testing.T) {
	x := newPair(t, fine(), 3)
	var row string
	for beats := 1; beats <= 32; beats++ {
		row += strings.Repeat("1", beats*firstWaits-1-len(row))
		sent := code.Encode(x.build(0, 0, uint16(beats*firstWaits), true))
		row += sent[:len(sent)-8]
		if beats < 16 {
			row += "000000" // from 128 on it is passive, and nobody sees its flags
		}
	}
	row += strings.Repeat("1", 3000)
	x.ones(len(row))
	if got := string(x.drove); got != row {
		t.Errorf("P24.2: it drove %s, want %s", got, row)
	}
	same(t, "P24.3: off", x.n.Status(), api.Status{Counts: api.Counts{Sent: 256}, Off: true})
	same(t, "P24.4: what Mac tells", x.n.Mac().Counts(), api.Counts{Sent: 256})
}

// P24.4: a node is off with its 32nd frame that fails, not ahead of it.
func TestOff(t *testing.T) {
	x := newPair(t, fine(), 3)
	x.ones(32*firstWaits - 1)
	same(t, "P24.4: not off yet", x.n.Status(), api.Status{Counts: api.Counts{Sent: 248}})
	x.ones(200)
	same(t, "P24.4: off", x.n.Status().Off, true)
	x = follows(t, fine(), 1, 0)
	x.send(0, "on")
	x.send(1, "x")
	x.switchOff()
	same(t, "P24.4: off in a cycle", x.n.Status(), api.Status{State: inStep, Counts: api.Counts{Sent: 256}, Off: true})
	x.to(fineSend)
	x.quiet("P24.2: its state has ErrOff", 1)
	x.countersAre("P24.2: its state has ErrOff", 1)
	x.openIs("behind ErrOff of a state", 0)
	x.to(fineArb)
	x.quiet("P24.2: its event has ErrOff", 1)
	x.openIs("behind ErrOff of an event", 0)
	x.quiet("P24.2: its beats have ErrOff", 5000)
	x.countersAre("P24.2: an event doesn't count", 1)
	same(t, "P24.2: silent", x.n.Status(), api.Status{Level: s3, Counts: api.Counts{Sent: 256}, Off: true})
}

// P24.2: behind a TWatch the wait begins anew, and Init counts once more.
func TestWaitBehindWatch(t *testing.T) {
	for who, want := range []int{0, secondWaits, 0, firstWaits} {
		x := follows(t, fine(), who, 2)
		x.to(fineWatch)
		same(t, "P24.2: ahead of the watch", x.n.Status().State, inStep)
		x.ones(1)
		same(t, "P24.2: at the watch", x.n.Status(), api.Status{Level: s3, Counts: x.p.mac.Counts()})
		same(t, "P24.2: at the watch the time for all is the clock's", x.n.Global(), x.n.clock.Time())
		same(t, fmt.Sprintf("P24.2: node %d: first 0 behind the watch", who), x.zeroAt(3000), want)
	}
}

// P24.2, P24.3: in a cycle nothing of the wait counts, and behind it it is 0.
func TestWaitBehindBeat(t *testing.T) {
	for who, want := range []int{0, secondWaits, 0, firstWaits} {
		x := newPair(t, fine(), who)
		x.ones(150)
		x.beat(0, 0, 77, true)
		x.to(fineWatch)
		x.ones(1)
		same(t, fmt.Sprintf("P24.2: node %d: first 0", who), x.zeroAt(3000), want)
	}
}

// P24.3: a beat of which the watch came in the midst has no start any more: no cycle begins, but it is a beat, and the wait is 0 behind it.
func TestBeatAcrossWatch(t *testing.T) {
	for who, want := range []int{0, secondWaits, 0, firstWaits} {
		x := follows(t, fine(), who, 2)
		x.to(fineWatch - 20)
		f := x.build(0, 3, 9000, false)
		row := code.Acked(f)
		x.lay(row[:len(row)-1])
		same(t, "P24.3: no start", x.n.Status(), api.Status{State: syncing, Master: who == 3, Counts: x.p.mac.Counts()})
		if cycle, at, ok := x.n.Time(); cycle != 0 || at != 0 || ok {
			t.Errorf("P24.3: no start: Time: %d, %d, %t", cycle, at, ok)
		}
		same(t, fmt.Sprintf("P24.3: node %d: first 0 behind it", who), x.zeroAt(3000), want)
	}
}

// P24.2: what is over isn't asked once more, and errors of Ask are let go: a beat of a master that waits for its turn goes once.
func TestBeatIsLetGo(t *testing.T) {
	x := newPair(t, fine(), 3)
	x.ones(firstWaits - 60)
	row := code.Acked(another()) + "111"
	x.lay(row[:1])
	x.ask(ofMessage(4, "own"))
	x.lay(row[1:])
	if len(x.drove) < firstWaits {
		t.Fatalf("P24.2: the wait isn't over at bit %d", len(x.drove))
	}
	x.sends("P24.2: what waited goes, no beat", ofMessage(4, "own"))
	x.quiet("P24.2: no beat ahead of another wait", 2*firstWaits-1-len(x.drove))
	x.sends("P24.2: behind another wait", x.build(0, 0, 2*firstWaits, true))
}

// P24.2: silent from the watch to the next beat; before it and behind it by the counters.
func TestSilent(t *testing.T) {
	x := newPair(t, fine(), 0)
	x.ones(3000)
	same(t, "P24.2: no beat ever came: it isn't silent", x.n.Status(), api.Status{})
	x.beat(1, 3, 500, true)
	x.to(fineWatch)
	same(t, "P24.2: not yet", x.n.Status(), api.Status{State: syncing, Cycle: 3})
	x.ones(1)
	same(t, "P24.2: silent", x.n.Status(), api.Status{Level: s3})
	x.ones(5000)
	x.frame(ofMessage(0, "on"))
	same(t, "P24.3: a message doesn't end it", x.n.Status(), api.Status{Level: s3})
	f := x.build(1, 0, 600, true)
	row := code.Acked(f)
	x.lay(row[:len(row)-2])
	same(t, "P24.3: a bit ahead of the beat's end", x.n.Status(), api.Status{Level: s3})
	x.lay(row[len(row)-2:] + "111")
	same(t, "P24.3: no longer", x.n.Status(), api.Status{State: syncing})
	x.bad(2, mostStatus)
	same(t, "P24.4: by its counters", x.n.Status(), api.Status{State: syncing, Level: s2})
	x.to(fineWatch)
	x.ones(1)
	same(t, "P24.4: silent is worse", x.n.Status(), api.Status{Level: s3})
}

// P24.2: a silent node beats all the same, and its counters don't keep it from that.
func TestSilentBeats(t *testing.T) {
	x := newPair(t, fine(), 1)
	x.bad(2, mostStatus)
	x.beat(0, 2, 500, true)
	x.to(fineWatch)
	x.ones(secondWaits)
	same(t, "P24.2: silent", x.n.Status().Level, s3)
	x.sends("P24.2: cycle 0, a step, its own time", x.build(1, 0, x.n.clock.Time()+1, true))
	same(t, "P24.3: no longer", x.n.Status(), api.Status{State: inStep, Level: s2, Master: true, Counts: x.p.mac.Counts()})
}

// P24.2: a state goes in its window, again in each cycle.
func TestState(t *testing.T) {
	for _, data := range []string{"on", "", "12345678"} {
		x := follows(t, fine(), 1, 0)
		x.send(0, data)
		for cycle := 1; cycle <= 3; cycle++ {
			was := len(x.drove)
			x.to(fineSend)
			same(t, "P24.2: ahead of the window nothing but acks", strings.Count(string(x.drove[was:]), "0"), 0)
			x.sends("P24.2: a state", ofMessage(0, data))
			same(t, "P24.3: it went well", x.n.Counter(0), 0)
			x.confirmedIs("P24.3: it went", make([]int, cycle)...)
			x.to(fineLead)
			x.beat(0, cycle, 1000+uint16(x.p.at()), false)
		}
	}
}

// P24.2: a state that doesn't go counts as bad, at its very unit, and nothing is open then.
func TestStateFails(t *testing.T) {
	rows := []struct {
		what   string
		begin  func() *pair
		before int
	}{
		{"without a State", func() *pair { return follows(t, fine(), 1, 0) }, 0},
		{"with events alone", func() *pair {
			x := follows(t, fine(), 1, 0)
			x.send(1, "x")
			return x
		}, 0},
		{"syncing", func() *pair {
			x := syncs(t, fine(), 1, 0)
			x.send(0, "on")
			return x
		}, 0},
		{"where the level doesn't beat", func() *pair {
			x := follows(t, fine(), 1, 0)
			x.send(0, "on")
			x.silence()
			return x
		}, 0},
		{"at the most", func() *pair {
			x := follows(t, fine(), 1, 0)
			x.bad(0, mostStatus)
			return x
		}, mostStatus},
	}
	for _, row := range rows {
		x := row.begin()
		x.to(fineSend)
		x.countersAre("P24.2: a unit ahead, "+row.what, row.before)
		x.quiet("P24.2: "+row.what, 1)
		x.countersAre("P24.2: "+row.what, min(row.before+1, mostStatus))
		x.openIs(row.what, 0)
		x.quiet("P24.2: "+row.what, 160)
		x.countersAre("P24.2: behind it, "+row.what, min(row.before+1, mostStatus))
		same(t, "P24.2: nothing was asked, "+row.what, x.n.Mac().Busy(), false)
	}
}

// P24.2: an error of Ask: something else waits. It waits on: nothing is open, so that nothing is ever over.
func TestStateFindsItBusy(t *testing.T) {
	x := follows(t, fine(), 1, 0)
	x.send(0, "on")
	x.to(fineSend - 10)
	x.lay("0")
	x.ask(ofMessage(4, "first"))
	row := code.Acked(another()) + "111"
	x.lay(row[1:10])
	x.countersAre("P24.2: a unit ahead")
	x.lay(row[10:11])
	x.countersAre("P24.2: ErrBusy", 1)
	x.openIs("ErrBusy", 0)
	x.lay(row[11:])
	x.sends("P24.2: what waited", ofMessage(4, "first"))
	x.countersAre("P24.3: and went", 1)
	x.confirmedIs("P24.3: and went", 4)
}

// P24.2: at S2 states go, events don't; at S1 both do.
func TestLevels(t *testing.T) {
	for bad, level := range map[int]int{0: s0, 2: s0, 3: s1, mostStatus - 1: s1, mostStatus: s2} {
		x := follows(t, fine(), 1, 0)
		x.send(0, "on")
		x.send(1, "x")
		x.bad(4, bad)
		same(t, "P24.4: the level", x.n.Status().Level, level)
		x.to(fineSend)
		x.sends("P24.2: a state", ofMessage(0, "on"))
		x.to(fineArb)
		if level > s1 {
			x.quiet("P24.2: no event", 300)
			same(t, "P24.2: the event waits on", x.n.objects.Waiting(), 1)
		} else {
			x.sends("P24.2: an event", ofMessage(1, "x"))
			same(t, "P24.3: the event is gone", x.n.objects.Waiting(), 0)
		}
		x.countersAre("P24.2: no event counts", 0, 0, 0, 0, bad)
		x.to(fineSecond)
		x.sends("P24.2: a beat", x.build(1, 1, x.n.Global()+1, true))
	}
}

// P24.1: one counter of each message, and no more: where all fail alike none stands out.
func TestCounters(t *testing.T) {
	x := follows(t, fine(), 1, 0)
	for msg := range 5 {
		same(t, "P24.4: the level", x.n.Status().Level, min(msg, 1)) // some fail, and some don't
		x.bad(msg, 3)
	}
	x.countersAre("P24.1: all", 3, 3, 3, 3, 3)
	same(t, "P24.1: all fail alike", x.n.Status().Level, s0)
}

// P24.2: events go one a window, in their order.
func TestEvents(t *testing.T) {
	x := follows(t, fine(), 1, 0)
	for _, data := range []string{"a", "", "12345678", "d"} {
		same(t, "P24.4: Send", x.send(1, data), api.OK)
	}
	same(t, "P24.4: Send", x.send(1, "e"), api.ErrFull)
	for i, data := range []string{"a", "", "12345678", "d"} {
		x.to(fineArb)
		x.openIs("a unit ahead", 0)
		x.sends("P24.2: an event", ofMessage(1, data))
		x.confirmedIs("P24.3: it went", slices.Repeat([]int{1}, i+1)...)
		x.quiet("P24.2: one a window", 250)
		x.to(fineLead)
		x.beat(0, (i+1)%4, 1000+uint16(x.p.at()), false)
	}
	x.to(fineArb)
	x.quiet("P24.2: none waits", 300)
	x.countersAre("P24.2: none counts", 5, 0, 2)
}

// P24.2: events that don't go don't count, and nothing is open.
func TestEventFails(t *testing.T) {
	rows := map[string]func() *pair{
		"without an Event": func() *pair { return follows(t, fine(), 1, 0) },
		"with a state alone": func() *pair {
			x := follows(t, fine(), 1, 0)
			x.send(4, "on")
			return x
		},
		"syncing": func() *pair {
			x := syncs(t, fine(), 1, 0)
			x.send(1, "x")
			return x
		},
		"without May": func() *pair {
			x := follows(t, fine(), 1, 0)
			x.send(1, "x")
			x.silence()
			return x
		},
	}
	for what, begin := range rows {
		x := begin()
		x.to(fineArb)
		x.quiet("P24.2: "+what, 1)
		x.countersAre("P24.2: "+what, 1) // its state that wasn't there
		x.openIs(what, 0)
		x.quiet("P24.2: "+what, 260)
		x.countersAre("P24.2: "+what, 1)
		same(t, "P24.2: nothing was asked, "+what, x.n.Mac().Busy(), false)
	}
	x := follows(t, fine(), 1, 0)
	x.send(1, "x")
	x.to(fineArb - 10)
	x.lay("0")
	x.ask(ofMessage(4, "first"))
	x.lay((code.Acked(another()) + "111")[1:])
	x.openIs("behind ErrBusy", 0)
	x.sends("P24.2: what waited", ofMessage(4, "first"))
	x.countersAre("P24.2: ErrBusy of an event", 1)
	same(t, "P24.2: the event waits on", x.n.objects.Waiting(), 1)
}

// P24.2: what should have come, and did or didn't.
func TestGet(t *testing.T) {
	x := follows(t, fine(), 0, 0)
	x.bad(0, 2)
	x.to(fineSend)
	x.frame(ofMessage(0, "on"))
	x.countersAre("P24.2: it came", 2)
	x.to(fineGet)
	x.countersAre("P24.2: a unit ahead", 2)
	x.ones(1)
	x.countersAre("P24.2: good, as it came", 1)
	x.to(fineLead)
	x.beat(0, 1, 1000+uint16(x.p.at()), false)
	x.to(fineGet)
	x.countersAre("P24.2: a unit ahead", 1)
	x.ones(1)
	x.countersAre("P24.2: bad: it came ahead of the beat", 2)
	x.frame(ofMessage(2, "on"))
	x.to(fineOther)
	x.bad(2, 1)
	x.ones(1)
	x.countersAre("P24.2: wherever in the cycle it came, it is good", 2, 0, 0)
	x.to(fineLead)
	x.frame(ofMessage(0, "late"))
	x.beat(0, 2, 1000+uint16(x.p.at()), false)
	x.to(fineWatch)
	x.countersAre("P24.2: no window of message 2, none of 0's in which it came", 3)
}

// P24.2: two of a cycle, of which one came: they count by themselves.
func TestGetTwo(t *testing.T) {
	x := follows(t, fine(), 0, 1)
	x.bad(0, 1)
	x.bad(2, 1)
	x.frame(ofMessage(2, "on"))
	x.to(fineLead)
	x.countersAre("P24.2: message 0 bad, 2 good", 2, 0, 0)
	x = follows(t, fine(), 0, 3)
	x.frame(ofMessage(0, "on"))
	x.to(fineLead)
	x.countersAre("P24.2: message 0 good, not below 0; 2 bad", 0, 0, 1)
}

// P24.2: who isn't in time counts nothing that should have come.
func TestGetSyncing(t *testing.T) {
	for _, comes := range []bool{false, true} {
		x := syncs(t, fine(), 0, 1)
		x.bad(0, 2)
		if comes {
			x.frame(ofMessage(0, "on"))
		}
		x.to(fineLead)
		x.countersAre("P24.2: syncing", 2)
		x.deliveredIs("P24.3: syncing")
		data, ok := x.n.Read(0)
		same(t, "P24.3: Read, syncing", [2]any{data, ok}, [2]any{map[bool]string{true: "on"}[comes], comes})
	}
}

// P24.2: what came while it was syncing came: in time by another beat it is forgotten, as of any.
func TestCameIsForgotten(t *testing.T) {
	x := syncs(t, fine(), 0, 0)
	x.frame(ofMessage(0, "on"))
	x.beat(0, 1, 0, false)
	x.bad(0, 1)
	x.to(fineGet)
	x.ones(1)
	x.countersAre("P24.3: forgotten", 2)
}

// P24.2: who beats at a cycle's end, and who behind it.
func TestTurns(t *testing.T) {
	beats := func(x *pair, ranks ...int) *pair {
		x.t.Helper()
		x.ones(5)
		for i, rank := range ranks {
			x.beat(rank, i, 1000, i == 0)
		}
		return x
	}
	own := newPair(t, fine(), 3)
	own.ones(firstWaits - 1)
	own.sends("P24.2: its first beat", own.build(0, 0, firstWaits, true))
	quieter := beats(newPair(t, fine(), 3), 1, 1)
	quieter.silence()
	worse := beats(newPair(t, fine(), 3), 1, 1)
	worse.bad(0, mostStatus)
	rows := []struct {
		what        string
		x           *pair
		leads, disc bool
		stands      int
	}{
		{"the leader, by its own beat", own, true, false, fineFirst},
		{"rank 0 by beats of its own", beats(newPair(t, fine(), 3), 0, 0), true, false, fineFirst},
		{"rank 0, of a leader above", beats(newPair(t, fine(), 3), 1, 1), true, true, fineFirst},
		{"rank 0, of a leader above, at S2", worse, true, true, fineFirst},
		{"rank 0, syncing", beats(newPair(t, fine(), 3), 1), false, true, fineFirst},
		{"rank 0, syncing by a beat of its own", beats(newPair(t, fine(), 3), 0), false, false, fineFirst},
		{"rank 1, of a leader below", beats(newPair(t, fine(), 1), 0, 0), false, true, fineSecond},
		{"rank 1, of its own last beat", beats(newPair(t, fine(), 1), 0, 1), true, false, fineSecond},
		{"rank 1, syncing", beats(newPair(t, fine(), 1), 0), false, true, fineSecond},
		{"no master", beats(newPair(t, fine(), 0), 0, 0), false, false, 0},
		{"no master, of rank 1", beats(newPair(t, fine(), 2), 1, 1, 0), false, false, 0},
		{"rank 0, where the level doesn't beat", quieter, false, false, 0},
	}
	for _, row := range rows {
		x, ends := row.x, fineLead
		what := "P24.2: " + row.what
		cycle := (x.p.cycle + 1) % 4
		x.to(ends)
		if row.leads {
			x.copy().sends(what, x.build(x.p.rank(), cycle, x.n.Global()+1, row.disc))
			x.force("0")
			same(t, what+": asked", x.n.Mac().Busy(), true)
			x.force("1" + strings.Repeat("1", 20))
		}
		was := len(x.drove)
		if row.stands == 0 {
			x.to(fineWatch)
			same(t, what+": no 0", strings.Count(string(x.drove[was:]), "0"), 0)
			continue
		}
		x.to(row.stands - 1)
		x.quiet(what, 1)
		x.sends(what+", behind the cycle's end", x.build(x.p.rank(), cycle, x.n.Global()+1, row.disc))
		same(t, what+": the leader now", x.n.Status(), api.Status{State: inStep, Level: x.p.level(false), Master: true, Cycle: cycle, Counts: x.p.mac.Counts()})
	}
}

// P24.2: the next cycle is Cycle + 1 modulo Cycles.
func TestNextCycle(t *testing.T) {
	for _, cycles := range []int{1, 2, 4, 8} {
		m := fine()
		m.Cycles, m.Windows = cycles, nil
		for cycle := range cycles {
			x := newPair(t, m, 3)
			x.ones(5)
			x.beat(0, cycle, 500, false)
			x.to(fineFirst)
			x.sends(fmt.Sprintf("P24.2: behind cycle %d of %d", cycle, cycles), x.build(0, []int{1, 2, 3, 4, 5, 6, 7, 0}[cycle]%cycles, x.n.Global()+1, false))
		}
	}
}

// P24.2: global's At is of the time at which the beat is asked, the last beat's offset with it; of Level 1 a beat is one byte.
func TestBeatTellsTime(t *testing.T) {
	for _, global := range []uint16{0, 1, 500, 32768, 65000, 65535} {
		x := newPair(t, fine(), 1)
		x.ones(40)
		begin := x.n.clock.Time() + 1
		x.beat(0, 2, global, true)
		x.to(fineSecond)
		f := x.build(1, 3, global+fineSecond, true)
		same(t, "P24.4: Global", x.n.Global(), x.n.clock.Time()-begin+global)
		x.sends("P24.2: the time for all", f)
		x.to(fineLead)
		x.sends("P24.2: the time for all, no step", x.build(1, 0, global+fineSecond+fineLead, false))
	}
	m := fine()
	m.Level = 1
	x := newPair(t, m, 3)
	x.ones(firstWaits - 1)
	x.sends("P24.2: Level 1", api.Frame{ID: 0x80, Data: "\x00"})
	x.to(fineLead)
	x.sends("P24.2: Level 1", api.Frame{ID: 0x80, Data: "\x01"})
}

// quick: a matrix of which a bit of a fast clock has several units. Its Step is 577.
func quick() api.Matrix {
	m := fine()
	m.Unit, m.Length = 1, 2400
	m.Windows = []api.Window{
		{Kind: exclusive, Start: 600, End: 1200, Repeat: 1, Msg: 2},
		{Kind: exclusive, Start: 1200, End: 1800, Repeat: 1},
		{Kind: arbitrating, Start: 1800, End: 2400, Repeat: 1},
	}
	return m
}

// P24.2: several triggers of one Tick, of a clock of eight units a bit: each one is done.
func TestSeveralInOneTick(t *testing.T) {
	x := follows(t, quick(), 1, 0)
	x.send(0, "on")
	x.ticks = mostTicks
	x.to(1199)
	x.countersAre("P24.2: a Tick ahead")
	x.sends("P24.2: message 2 didn't come, its own goes", ofMessage(0, "on"))
	x.countersAre("P24.2: message 2 didn't come, its own goes", 0, 0, 1)
	x = follows(t, quick(), 1, 0)
	x.ticks = mostTicks
	x.to(1199)
	x.ones(1)
	x.countersAre("P24.2: neither", 1, 0, 1)
	m := quick()
	m.Enable = 1
	x = follows(t, m, 1, 0)
	x.send(0, "on")
	x.ticks = mostTicks
	x.to(1199)
	x.ones(1)
	if _, at, _ := x.n.Time(); at != 1204 {
		t.Fatalf("P24.2: the Tick ended at unit %d", at)
	}
	x.countersAre("P24.2: its own went away as soon as it was asked: it was over by then", 1, 0, 1)
	x.openIs("over by then", 0)
	x.quiet("P24.2: over by then", 60)
	x = follows(t, quick(), 3, 0)
	x.frame(ofMessage(2, "x"))
	x.bad(2, 1)
	x.ticks = mostTicks
	x.to(1799)
	x.countersAre("P24.2: message 2 came", 0, 0, 0)
	x.ones(1)
	x.countersAre("P24.2: message 0 didn't", 1, 0, 0)
}

// atOnce does what is due up to that unit as if it came in one Tick.
func (x *pair) atOnce(at int) {
	x.t.Helper()
	x.n.work(at)
	x.p.work(at)
	x.look(fmt.Sprintf("all up to %d", at))
	open, ok := x.n.sched.Open()
	if open.Kind != x.p.open.Kind || open.Msg != x.p.open.Msg || open.Until != x.p.open.Until || ok != (x.p.open.Kind != 0) {
		x.t.Fatalf("P24.2: all up to %d: open: %v, %t, want %v", at, open, ok, x.p.open)
	}
	same(x.t, "P24.2: something waits", x.n.mac.Busy(), x.p.mac.Busy())
}

// P24.2: of several in one Tick the last one is open, and whichever fails closes it.
func TestCloseClosesWhateverIsOpen(t *testing.T) {
	rows := []struct {
		what         string
		state, event bool
		bad          int
		waits        bool
		goes         api.Frame
	}{
		{"neither", false, false, 1, false, api.Frame{}},
		{"a state alone", true, false, 0, true, ofMessage(0, "on")},
		{"an event alone: the state that isn't there closes its window", false, true, 1, true, ofMessage(1, "x")},
		{"both: the event finds it busy", true, true, 0, true, ofMessage(0, "on")},
	}
	for _, row := range rows {
		x := follows(t, fine(), 1, 0)
		if row.state {
			x.send(0, "on")
		}
		if row.event {
			x.send(1, "x")
		}
		x.atOnce(639)
		x.countersAre("P24.2: "+row.what, row.bad)
		x.openIs(row.what, 0)
		same(t, "P24.2: "+row.what+": something waits", x.n.Mac().Busy(), row.waits)
		if row.waits {
			x.sends("P24.2: "+row.what, row.goes)
		}
	}
}

// P24.2: all of a cycle, cut anyhow; behind its watch nothing is left of it.
func TestAtOnce(t *testing.T) {
	r := rand.New(rand.NewSource(24))
	for i := range 400 {
		who := i % 4
		x := follows(t, fine(), who, r.Intn(4))
		for msg := range 5 {
			if r.Intn(2) == 0 {
				x.send(msg, "on")
			}
			x.bad(msg, r.Intn(9)*r.Intn(2))
			if r.Intn(4) == 0 {
				x.frame(ofMessage(msg, "x"))
			}
		}
		for at := x.p.seen; at <= fineWatch; {
			at += 1 + r.Intn(900)
			x.atOnce(at)
		}
		x.openIs("behind the watch", 0)
		same(t, "P24.2: behind the watch nothing waits", x.n.Mac().Busy(), false)
		same(t, "P24.2: behind the watch", [2]int{x.n.Status().State, x.n.Status().Level}, [2]int{waiting, s3})
	}
}

// busyFrom lays frames of others from that unit on, so many one upon the other: in between nobody else may begin.
func (x *pair) busyFrom(at, frames int) {
	x.t.Helper()
	x.to(at)
	x.lay(strings.Repeat(code.Acked(another())+"11", frames))
}

// upTo lays ones, or a frame's bits as long as there are any, up to a bit ahead of that unit.
func (x *pair) upTo(at int, row string) string {
	x.t.Helper()
	for x.soon() < at {
		if row == "" {
			x.t.Fatalf("P24.2: the wire is free ahead of unit %d", at)
		}
		x.lay(row[:1])
		row = row[1:]
	}
	return row
}

// P24.2: a state that can't begin in time goes away, and counts; at Until it still may.
func TestOverState(t *testing.T) {
	x := follows(t, fine(), 1, 0)
	x.send(0, "on")
	x.to(fineSend - 5)
	row := x.upTo(fineSendOver, strings.Repeat(code.Acked(another())+"11", 2))
	same(t, "P24.2: at Until it waits", x.n.Mac().Busy(), true)
	x.openIs("at Until", send)
	x.countersAre("P24.2: at Until")
	x.lay(row[:1])
	same(t, "P24.2: over: it went", x.n.Mac().Busy(), false)
	x.openIs("over", 0)
	x.countersAre("P24.2: over", 1)
	x.lay(row[1:])
	x.quiet("P24.2: it isn't tried again in this cycle", 300)
	x.confirmedIs("P24.3: it went away")
	x = follows(t, fine(), 1, 0)
	x.send(0, "on")
	f := code.Acked(another()) + "111"
	x.to(fineSendOver - 1 - len(f))
	x.lay(f)
	x.sends("P24.2: at Until it begins", ofMessage(0, "on"))
	x.countersAre("P24.2: at Until it begins")
	x.confirmedIs("P24.2: at Until it begins", 0)
	x = follows(t, fine(), 1, 0)
	x.send(0, "on")
	x.to(fineSendOver - len(f))
	x.lay(f)
	x.quiet("P24.2: a unit behind Until it doesn't begin", 100)
	x.countersAre("P24.2: a unit behind Until it doesn't begin", 1)
}

// P24.2: an event that can't begin in time goes away and doesn't count; it waits for the next window.
func TestOverEvent(t *testing.T) {
	x := follows(t, fine(), 1, 1)
	x.send(1, "x")
	x.to(fineArb - 5)
	row := x.upTo(fineArbOver, strings.Repeat(code.Acked(another())+"11", 3))
	same(t, "P24.2: at Until it waits", x.n.Mac().Busy(), true)
	x.openIs("at Until", arb)
	x.lay(row[:1])
	same(t, "P24.2: over: it went", x.n.Mac().Busy(), false)
	x.openIs("over", 0)
	x.countersAre("P24.2: over: its state alone counts", 1)
	x.lay(row[1:])
	x.quiet("P24.2: it isn't tried again in this cycle", 100)
	x.to(fineLead)
	x.beat(0, 2, 1000, false)
	x.to(fineArb)
	x.sends("P24.2: in the next cycle", ofMessage(1, "x"))
}

// P24.2: over, and Cancel doesn't go: what is being sent goes on, and nothing counts; nothing is open any more in any case.
func TestOverWhileItIsSent(t *testing.T) {
	x := follows(t, fine(), 1, 0)
	x.send(0, "on")
	x.bad(0, 2)
	x.to(fineSend)
	c := x.copy()
	x.sends("P24.2: it goes on", ofMessage(0, "on"))
	x.countersAre("P24.3: it went: one less", 1)
	c.ones(fineSendOver - fineSend)
	c.openIs("at Until", send)
	c.ones(1)
	c.openIs("over", 0)
	same(t, "P24.2: over: it is still being sent", c.n.Mac().Busy(), true)
	c.countersAre("P24.2: over: nothing counts", 2)
	c.ones(100)
	same(t, "P24.3: nobody took it", c.n.Status().Counts, api.Counts{Sent: 8})
	c.countersAre("P24.3: nothing was open any more", 2)
}

// P24.2: what goes away as it is over needn't be what is open: what is open counts.
func TestOverOfAnother(t *testing.T) {
	x := follows(t, fine(), 1, 0)
	x.send(0, "on")
	x.to(fineSend - 5)
	row := x.upTo(fineSendOver-3, strings.Repeat(code.Acked(another())+"11", 2))
	x.swap(ofMessage(4, "own"))
	x.lay(row)
	x.countersAre("P24.2: message 0 was open", 1)
	same(t, "P24.2: over: what waited went", x.n.Mac().Busy(), false)
	x = follows(t, fine(), 1, 0)
	x.send(0, "on")
	x.to(fineSend - 5)
	row = x.upTo(fineSendOver-3, strings.Repeat(code.Acked(another())+"11", 2))
	x.n.mac.Cancel()
	x.p.mac.Cancel()
	x.lay(row)
	x.countersAre("P24.2: nothing went: nothing counts")
	x.openIs("over, and nothing went", 0)
}

// swap puts another frame in the place of the one that waits.
func (x *pair) swap(f api.Frame) {
	x.t.Helper()
	x.n.mac.Cancel()
	x.p.mac.Cancel()
	x.ask(f)
}

// The ends of a frame that a node begins to send at the next bit: f goes out; f meets an error; f loses.
func ends() map[string]func(x *pair, f api.Frame) {
	return map[string]func(x *pair, f api.Frame){
		"ESent":   func(x *pair, f api.Frame) { x.sends("P24.3: ESent", f) },
		"EFailed": func(x *pair, f api.Frame) { x.force("01") },
		"ELost":   func(x *pair, f api.Frame) { x.frame(another()) },
	}
}

// P24.3: each end of a frame, with a state's window open, an event's, or none.
func TestEnds(t *testing.T) {
	opens := map[int]func() *pair{
		send: func() *pair {
			x := follows(t, slow(), 1, 0)
			x.to(slowSend)
			return x
		},
		arb: func() *pair {
			x := follows(t, slow(), 1, 0)
			x.to(slowArb)
			return x
		},
		0: func() *pair {
			x := follows(t, fine(), 1, 0)
			f := code.Acked(another()) + "111"
			x.to(fineSendOver - 1 - len(f))
			x.lay(f)
			return x
		},
	}
	for kind, begin := range opens {
		for end, act := range ends() {
			x, msg := begin(), 0
			if kind == arb {
				msg = 1
			}
			// all have two failures of each already, so that less and more are seen
			x.bad(0, 2-x.p.counters[0])
			x.bad(1, 2)
			x.bad(4, 2)
			x.send(0, "on")
			x.send(1, "x")
			if kind == 0 {
				x.swap(ofMessage(0, "on")) // it was asked for in its window, while the wire was busy
			}
			what := fmt.Sprintf("P24.3: %s, kind %d open", end, kind)
			act(x, ofMessage(msg, map[int]string{0: "on", 1: "x"}[msg]))
			want := []int{2, 2, 0, 0, 2}
			switch {
			case end == "ESent":
				want[msg]--
				x.confirmedIs(what, msg)
			case kind == send:
				want[msg]++
			}
			x.countersAre(what, want...)
			x.openIs(what, 0)
			if end != "ESent" {
				x.confirmedIs(what)
				same(t, what+": the event waits on", x.n.objects.Waiting(), 1)
			}
			x.ones(len("000000")) // where it failed it flags
			x.quiet(what+": it was tried once", 40)
		}
	}
}

// P24.3: what ends needn't be what is open: what ends counts, and what is open is closed.
func TestEndsOfAnother(t *testing.T) {
	for end, act := range ends() {
		x := follows(t, slow(), 1, 0)
		x.send(0, "on")
		x.bad(4, 1)
		x.to(slowSend - 1)
		x.ones(10)
		f := code.Acked(another()) + "111"
		x.lay(f[:20])
		x.openIs("behind a frame's first bits", send)
		x.swap(ofMessage(4, "own"))
		x.lay(f[20:])
		act(x, ofMessage(4, "own"))
		want := map[string]int{"ESent": 0, "EFailed": 2, "ELost": 2}[end]
		x.countersAre("P24.3: "+end+" of message 4, message 0 open", 0, 0, 0, 0, want)
		x.openIs(end+" of another", 0)
	}
}

// P24.3: beats that fail or lose are no messages: nothing counts, and what is open stays so.
func TestEndsOfBeat(t *testing.T) {
	for _, end := range []string{"EFailed", "ELost"} {
		x := follows(t, slow(), 1, 0)
		x.send(0, "on")
		x.to(slowSend - 1)
		x.ones(10)
		f := code.Acked(another()) + "111"
		x.lay(f[:20])
		x.swap(x.build(1, 1, 0, false))
		x.lay(f[20:])
		ends()[end](x, api.Frame{})
		x.countersAre("P24.3: " + end + " of a beat")
		x.openIs(end+" of a beat", send)
	}
}

// P24.3: events go once, of the first one's message alone; another message that went leaves them.
func TestSentLeavesEvents(t *testing.T) {
	x := follows(t, slow(), 1, 0)
	x.send(1, "x")
	x.send(1, "y")
	x.ask(ofMessage(4, "own"))
	x.sends("P24.3: a state", ofMessage(4, "own"))
	same(t, "P24.3: two wait", x.n.objects.Waiting(), 2)
	x.ask(ofMessage(1, "x"))
	x.sends("P24.3: an event", ofMessage(1, "x"))
	same(t, "P24.3: one waits", x.n.objects.Waiting(), 1)
	x.confirmedIs("P24.3: both", 4, 1)
}

// every lays a beat and ones behind it, so many bits in all.
func (x *pair) every(bits, rank, cycle int, global uint16, disc bool) {
	x.t.Helper()
	f := code.Acked(x.build(rank, cycle, global, disc))
	x.lay(f)
	x.ones(bits - len(f))
}

// P24.3: a clock is set by a master's third beat in a row, if it isn't one of the own rank.
func TestRates(t *testing.T) {
	type told struct {
		rank   int
		global uint16
		disc   bool
	}
	steadily := func(by uint16) []told {
		return []told{{0, 65000, true}, {0, 65000 + by, false}, {0, 65000 + 2*by, false}, {0, 65000 + 3*by, false}}
	}
	rows := []struct {
		what  string
		who   int
		level int
		beats []told
		want  []int
	}{
		{"as fast", 0, 2, steadily(700), []int{1024, 1024, 1024}},
		{"faster", 0, 2, steadily(740), []int{1024, 1024, 968}},
		{"slower", 2, 2, steadily(660), []int{1024, 1024, 1086}},
		{"of the own rank", 3, 2, steadily(740), []int{1024, 1024, 1024, 1024}},
		{"of another rank", 1, 2, steadily(740), []int{1024, 1024, 968}},
		{"Level 1 tells no time", 0, 1, steadily(740), []int{1024, 1024, 1024, 1024}},
		{"at the bound", 0, 2, steadily(800), []int{1024, 1024, 896}},
		{"beyond the bound", 0, 2, steadily(801), []int{1024, 1024, 1024}},
		{"at the other bound", 0, 2, steadily(622), []int{1024, 1024, 1152}},
		{"beyond the other bound", 0, 2, steadily(621), []int{1024, 1024, 1024}},
		{"no length", 0, 2, steadily(0), []int{1024, 1024, 1024, 1024}},
		{"a step", 0, 2, []told{{0, 5, true}, {0, 745, false}, {0, 1485, true}, {0, 2225, false}, {0, 2965, false}}, []int{1024, 1024, 1024, 1024, 968}},
		{"no step at first", 0, 2, []told{{0, 5, false}, {0, 745, false}, {0, 1485, false}}, []int{1024, 1024, 968}},
		{"another master", 0, 2, []told{{0, 5, true}, {0, 745, false}, {1, 1485, false}, {1, 2225, false}, {1, 2965, false}}, []int{1024, 1024, 1024, 1024, 968}},
	}
	for _, row := range rows {
		m := fine()
		m.Level, m.Windows = row.level, nil
		x := newPair(t, m, row.who)
		x.ones(5)
		for i, want := range row.want {
			x.every(700, row.beats[i].rank, i%4, row.beats[i].global, row.beats[i].disc)
			if num, den := x.n.clock.Rate(); num != want || den != 256 {
				t.Errorf("P24.3: %s: behind beat %d: rate %d, %d, want %d", row.what, i, num, den, want)
			}
		}
	}
}

// P24.3: a rate counts from the rate that there is: what was set right stays so.
func TestRateStays(t *testing.T) {
	m := fine()
	m.Windows = nil
	x := newPair(t, m, 0)
	for i := range 40 {
		x.every(700, 0, i%4, uint16(740*i), i == 0)
		if num, _ := x.n.clock.Rate(); i >= 2 && (num < 960 || num > 976) {
			t.Errorf("P24.3: behind beat %d: rate %d, want about 968", i, num)
		}
	}
}

// P24.3: of Level 1 a beat leaves the time as it is; of Level 2 it tells it.
func TestGlobals(t *testing.T) {
	for level, want := range map[int]int{1: 0, 2: 5000} {
		m := fine()
		m.Level = level
		x := newPair(t, m, 2)
		x.ones(30)
		begin := int(x.n.clock.Time()) + 1
		x.beat(1, 2, 5000, true)
		if level == 1 {
			want = begin
		}
		_, at, _ := x.n.Time()
		same(t, fmt.Sprintf("P24.4: Level %d: Global", level), int(x.n.Global()), want+at)
		x.ones(300)
		same(t, fmt.Sprintf("P24.4: Level %d: Global later", level), int(x.n.Global()), want+at+300)
	}
}

// P24.3: a beat in a cycle's midst: what waits goes, nothing is open, nothing counts, and all of the new cycle is to come.
func TestBeatCancels(t *testing.T) {
	for _, kind := range []int{send, arb} {
		x := follows(t, slow(), 1, 0)
		data := "on"
		msg, at := 0, slowSend
		if kind == arb {
			msg, at = 1, slowArb
		}
		x.to(at - 1)
		x.send(msg, data)
		before := x.p.counters
		x.ones(10)
		f := code.Acked(x.build(0, 3, 7, false))
		x.lay(f[:40])
		x.openIs("in the midst of a beat", kind)
		same(t, "P24.2: it waits", x.n.Mac().Busy(), true)
		x.lay(f[40:])
		same(t, "P24.3: it went away", x.n.Mac().Busy(), false)
		x.openIs("behind a beat", 0)
		x.quiet("P24.3: behind a beat", 100)
		same(t, "P24.3: nothing counts", x.p.counters, before)
		x.countersAre("P24.3: nothing counts", before[:5]...)
		same(t, "P24.3: another cycle", x.n.Status().Cycle, 3)
		x.to(at)
		x.sends("P24.2: in the new cycle", ofMessage(msg, data))
	}
}

// P24.3: frames that are neither beats nor messages are nothing, but for when they begin.
func TestNeither(t *testing.T) {
	for _, f := range []api.Frame{another(), {ID: 0x80}, {ID: 0x80, Data: "\x01"}, {ID: 0x80, Data: "\x04\x00\x00\x00"}, {ID: 0x82, Data: "\x00\x00\x00\x00"}, {ID: 0x101, RTR: true}, {Ext: true, ID: 0x101, Data: "on"}, {ID: 0, Data: "on"}} {
		for _, x := range []*pair{newPair(t, fine(), 0), follows(t, fine(), 0, 2)} {
			if x.p.begun {
				x.to(fineGet + 5)
			}
			x.ones(5)
			was, counters := x.n.Status(), x.p.counters
			x.frame(f)
			same(t, fmt.Sprintf("P24.3: %#v", f), x.n.Status(), was)
			same(t, fmt.Sprintf("P24.3: %#v: nothing counts", f), x.p.counters, counters)
			x.deliveredIs("P24.3: no message")
			if _, ok := x.n.Read(0); ok {
				t.Errorf("P24.3: %#v: Read", f)
			}
		}
	}
}

// P24.4: of more than MaxEvents deliveries, and confirmations, the latest ones.
func TestLatest(t *testing.T) {
	m := slow()
	m.Length, m.Windows = 4000, nil
	x := follows(t, m, 1, 0)
	var all []api.Delivery
	for i := range 2*mostEvents + 3 {
		d := api.Delivery{Msg: 2 + i%2, Data: fmt.Sprint(i)}
		x.frame(ofMessage(d.Msg, d.Data))
		all = append(all, d)
		x.deliveredIs("P24.4: the latest", all[max(0, len(all)-mostEvents):]...)
	}
	same(t, "P24.4: how many", len(x.n.Deliveries()), mostEvents)
	var sent []int
	for i := range mostEvents + 3 {
		x.ask(ofMessage(i%2*4, "own"))
		x.sends("P24.3: sent", ofMessage(i%2*4, "own"))
		sent = append(sent, i%2*4)
		x.confirmedIs("P24.4: the latest", sent[max(0, len(sent)-mostEvents):]...)
	}
	same(t, "P24.4: how many", len(x.n.Confirmed()), mostEvents)
}

// P24.4: what is answered is the caller's own, its spare room too.
func TestAnswersAreNew(t *testing.T) {
	x := follows(t, slow(), 1, 0)
	for i := range 5 {
		x.frame(ofMessage(2, fmt.Sprint(i)))
		x.ask(ofMessage(4, "own"))
		x.sends("P24.3: sent", ofMessage(4, "own"))
	}
	for range 3 {
		kept, sent := x.n.Deliveries(), x.n.Confirmed()
		spoiled, spoiledToo := x.n.Deliveries(), x.n.Confirmed()
		for i := range spoiled[:cap(spoiled)] {
			spoiled[:cap(spoiled)][i] = api.Delivery{Msg: 99, Data: "spoiled"}
		}
		for i := range spoiledToo[:cap(spoiledToo)] {
			spoiledToo[:cap(spoiledToo)][i] = 99
		}
		x.look("spoiled")
		x.deliveredIs("P24.4: spoiled", kept...)
		x.confirmedIs("P24.4: spoiled", sent...)
		x.frame(ofMessage(2, "more"))
	}
}

// P24.4: Send is object's: its errors, and nothing is changed by them.
func TestSend(t *testing.T) {
	x := newPair(t, fine(), 1)
	for _, msg := range append([]int{-1, 2, 3, 5, mostMessages}, far...) {
		for _, data := range []string{"on", "123456789"} {
			same(t, "P24.4: no message of its own", x.send(msg, data), api.ErrNone)
		}
	}
	same(t, "P24.4: a state too long", x.send(0, "123456789"), api.ErrForm)
	same(t, "P24.4: an event too long", x.send(1, "123456789"), api.ErrForm)
	for range 4 {
		same(t, "P24.4: an event", x.send(1, "12345678"), api.OK)
	}
	same(t, "P24.4: one more", x.send(1, ""), api.ErrFull)
	same(t, "P24.4: one more, too long", x.send(1, "123456789"), api.ErrForm)
	for range 9 {
		same(t, "P24.4: states don't wait", x.send(0, "12345678"), api.OK)
	}
	same(t, "P24.4: another state", x.send(4, ""), api.OK)
	if _, ok := x.n.Read(0); ok {
		t.Error("P24.4: what was sent came")
	}
}

// P24.2: a Tick is clock's: held from 0 to MaxTicks, however many there are.
func TestTicks(t *testing.T) {
	for _, ticks := range append([]int{-9, -1, 0, 1, 7, 8, 9, 16, 1000}, far...) {
		x := newPair(t, quick(), 3)
		x.ticks = ticks
		x.beat(1, 0, 500, true)
		x.ones(150)
		held := min(max(ticks, 0), mostTicks)
		_, at, _ := x.n.Time()
		same(t, fmt.Sprintf("P24.2: Tick(%d)", ticks), int(x.n.clock.Time()), held*len(x.drove))
		same(t, fmt.Sprintf("P24.2: Tick(%d): the time in the cycle", ticks), at, held*(len(x.drove)-1))
	}
	x := newPair(t, fine(), 3)
	x.ones(firstWaits - 1)
	x.ticks = 0
	x.quiet("P24.2: where time stands nothing is due", 500)
	x.ticks = 4
	same(t, "P24.2: where it goes on it is", x.zeroAt(10), 1)
}

// P24.4: a copy tells the same, and both go their own ways.
func TestCopy(t *testing.T) {
	rows := []func(x *pair){
		func(x *pair) { x.ones(1600) },
		func(x *pair) { x.send(0, "b"); x.send(1, "b"); x.ones(900) },
		func(x *pair) { x.frame(ofMessage(2, "b")); x.frame(ofMessage(3, "")); x.ones(400) },
		func(x *pair) { x.beat(0, 3, 9000, true); x.ones(200); x.beat(1, 0, 9300, false); x.ones(1600) },
		func(x *pair) { x.ticks = 8; x.ones(1300) },
		func(x *pair) { x.force(strings.Repeat("0", 40)); x.ones(700) },
		func(x *pair) { x.switchOff(); x.ones(100) },
		func(x *pair) { x.to(fineSend); x.sends("P24.2: its state", ofMessage(0, "a")); x.ones(300) },
	}
	for i, first := range rows {
		for j, second := range rows {
			x := follows(t, fine(), 1, 0)
			x.send(0, "a")
			x.send(1, "a")
			x.frame(ofMessage(2, "a"))
			c := x.copy()
			d := c.copy()
			c.look("a copy")
			first(x)
			c.look(fmt.Sprintf("a copy behind row %d of the first one", i))
			second(c)
			x.look(fmt.Sprintf("the first one behind row %d of its copy", j))
			d.look("a copy of a copy")
			first(d)
			if !slices.Equal(d.drove, x.drove) || d.n.Status() != x.n.Status() {
				t.Errorf("P24.4: rows %d, %d: a copy that is told the same does another thing", i, j)
			}
		}
	}
}

// P24.4: a copy at each bit, of which each goes on as the first one does.
func TestCopyAtEachBit(t *testing.T) {
	x := follows(t, slow(), 1, 0)
	x.send(0, "on")
	x.send(1, "x")
	x.to(slowSend - 2)
	for range 60 {
		c := x.copy()
		c.ones(90)
		x.ones(1)
	}
}

// P24.4: nodes may be looked at by several at once, and copied.
func TestLooksAtOnce(t *testing.T) {
	x := follows(t, fine(), 1, 0)
	x.send(1, "x")
	x.frame(ofMessage(2, "a"))
	want := x.n.Status()
	var all sync.WaitGroup
	for range 8 {
		all.Go(func() {
			for range 20 {
				c := x.n.Copy()
				c.Tick(4)
				c.Sample(c.Drive())
				if x.n.Status() != want || len(x.n.Deliveries()) != 1 || x.n.Counter(0) != 0 || x.n.Drive() != '1' {
					t.Error("P24.4: looked at by several")
				}
				x.n.Time()
				x.n.Global()
				x.n.Read(2)
				x.n.Confirmed()
				x.n.Mac().Counts()
			}
		})
	}
	all.Wait()
}

// wire is nodes whose bits are ANDed.
type wire []*pair

func newWire(t *testing.T, m api.Matrix, who ...int) wire {
	t.Helper()
	var w wire
	for _, one := range who {
		w = append(w, newPair(t, m, one))
	}
	return w
}

// step is one bit time; turned: the bit is the other one.
func (w wire) step(turned bool) byte {
	bit := byte('1')
	for _, x := range w {
		bit = min(bit, x.begin())
	}
	if turned {
		bit = '0' + '1' - bit
	}
	for _, x := range w {
		x.end(bit)
	}
	return bit
}

func (w wire) run(bits int) string {
	row := make([]byte, bits)
	for i := range row {
		row[i] = w.step(false)
	}
	return string(row)
}

// fill answers a row with ones behind it, up to that bit.
func fill(row string, bits int) string { return row + strings.Repeat("1", bits-len(row)) }

// P24.5: two nodes whose bits are ANDed, by a row of the wire written out: nobody told them anything else.
func TestTwo(t *testing.T) {
	w := newWire(t, fine(), 3, 1)
	first, second := w[0], w[1]
	second.send(0, "on")
	second.send(1, "x")
	second.send(1, "y")
	var row string
	for cycle := range 6 {
		begins := firstWaits + cycle*fineLead
		row = fill(row, begins-1) + code.Acked(first.build(0, cycle%4, uint16(begins), cycle == 0))
		if cycle > 0 {
			row = fill(row, begins+fineSend-1) + code.Acked(ofMessage(0, "on"))
		}
		if cycle == 1 || cycle == 2 {
			row = fill(row, begins+fineArb-1) + code.Acked(ofMessage(1, []string{"", "x", "y"}[cycle]))
		}
	}
	row = fill(row, firstWaits+6*fineLead-1)
	if got := w.run(len(row)); got != row {
		t.Errorf("P24.5: the wire had %s, want %s", got, row)
	}
	on, x, y := api.Delivery{Msg: 0, Data: "on"}, api.Delivery{Msg: 1, Data: "x"}, api.Delivery{Msg: 1, Data: "y"}
	first.deliveredIs("P24.5: node 3", on, x, on, y, on, on, on)
	second.confirmedIs("P24.5: node 1", 0, 1, 0, 1, 0, 0, 0)
	second.deliveredIs("P24.5: node 1")
	first.confirmedIs("P24.5: node 3")
	same(t, "P24.5: node 3", first.n.Status(), api.Status{State: inStep, Level: s1, Master: true, Cycle: 1})
	same(t, "P24.5: node 1", second.n.Status(), api.Status{State: inStep, Level: s1, Cycle: 1})
	first.countersAre("P24.5: of message 2 nothing came in cycles 1, 3, 1", 0, 0, 3)
	second.countersAre("P24.5: of message 2 nothing came in cycles 1, 3, 1", 0, 0, 3)
	same(t, "P24.5: one time", first.n.Global(), second.n.Global())
}

// P24.5: a master that is gone is stood in for; when it is back the least rank leads.
func TestTwoMasters(t *testing.T) {
	w := newWire(t, fine(), 0, 1, 2, 3)
	w.run(firstWaits + 3*fineLead)
	same(t, "P24.5: rank 0 leads", w[3].n.Status().Master, true)
	same(t, "P24.5: rank 1 doesn't", w[1].n.Status().Master, false)
	alive := w[:3]
	alive.run(fineSecond + 200)
	for who, x := range alive {
		same(t, fmt.Sprintf("P24.5: node %d: rank 1 leads", who), x.n.Status().Master, who == 1)
		same(t, fmt.Sprintf("P24.5: node %d in time", who), x.n.Status().State, inStep)
	}
	w[3] = newPair(t, fine(), 3)
	w.run(4 * fineLead)
	for who, x := range w {
		same(t, fmt.Sprintf("P24.5: node %d: rank 0 leads again", who), x.n.Status().Master, who == 3)
		same(t, fmt.Sprintf("P24.5: node %d in time", who), x.n.Status().State, inStep)
	}
}

// P24.5: nodes with clocks that tick otherwise count the same times in the end.
func TestClocks(t *testing.T) {
	m := fine()
	m.Unit, m.Windows = 64, nil
	w := newWire(t, m, 3, 1, 0)
	for i := range 60000 {
		w[1].ticks = 4 - i%16/15 // a little slower
		w[2].ticks = 4 + i%16/15 // and faster
		w.step(false)
		if i < 50000 {
			continue
		}
		for _, x := range w[1:] {
			if off := int(int16(x.n.Global() - w[0].n.Global())); off < -3 || off > 3 {
				t.Fatalf("P24.5: bit %d: node %d is %d units off", i, x.p.who, off)
			}
		}
	}
}

// someMatrix is any matrix that can be.
func someMatrix(t *testing.T, r *rand.Rand) api.Matrix {
	m := api.Matrix{Level: 1 + r.Intn(2), Nodes: 2 + r.Intn(3), Cycles: 1 << r.Intn(4), Enable: 1 + r.Intn(16), Unit: []int{1, 2, 3, 4, 7, 16, 64}[r.Intn(7)], Init: r.Intn(60), Ref: uint32(8 * r.Intn(256))}
	step := (560+m.Unit-1)/m.Unit + 1 + m.Enable
	m.Length = step*(2+r.Intn(5)) + r.Intn(20)
	m.Masters = r.Perm(m.Nodes)[:1+r.Intn(m.Nodes)]
	used := map[uint32]bool{}
	for len(m.Messages) < r.Intn(8)+2 {
		id := uint32(r.Intn(1 << 11))
		if !used[id] && (id < m.Ref || id > m.Ref+7) {
			used[id] = true
			m.Messages = append(m.Messages, api.Message{ID: id, Owner: r.Intn(m.Nodes), Event: r.Intn(3) == 0})
		}
	}
	for at := step + r.Intn(3); at+step <= m.Length; at += step + r.Intn(step) {
		w := api.Window{Kind: []int{exclusive, exclusive, exclusive, exclusive, arbitrating, free}[r.Intn(6)], Start: at, End: at + step, Repeat: 1 << r.Intn(4)}
		w.Repeat = min(w.Repeat, m.Cycles)
		w.Cycle = r.Intn(w.Repeat)
		if w.Kind == exclusive {
			w.Msg = r.Intn(len(m.Messages))
			if m.Messages[w.Msg].Event {
				w.Kind, w.Msg = arbitrating, 0
			}
		}
		m.Windows = append(m.Windows, w)
	}
	if New(config.Print(m), 0).isWrong() {
		t.Fatalf("P14.2: a matrix that can be: %+v", m)
	}
	return m
}

// P24.2, P24.3, P24.5: any matrices, sends, clocks, turned bits, nodes that are new again or copies, against papers.
func TestAnyWires(t *testing.T) {
	r := rand.New(rand.NewSource(2024))
	var delivered, confirmed, silent, led, worse int
	for i := range 50 {
		m := someMatrix(t, r)
		var who []int
		for one := range m.Nodes {
			who = append(who, one)
		}
		w := newWire(t, m, who...)
		turns := []int{0, 0, 3000, 700, 120}[i%5]
		for bit := range 8000 {
			if bit == 4000 && i%5 == 1 {
				w = w[:1] // alone it gets no beat through
			}
			one := r.Intn(len(w))
			switch r.Intn(400) {
			case 0, 1:
				w[one].send(r.Intn(len(m.Messages)+1), strings.Repeat(fmt.Sprint(r.Intn(10)), r.Intn(10)))
			case 5:
				w[one] = w[one].copy()
			case 6:
				if i%3 == 2 {
					w[one].ticks = []int{4, 4, 4, 3, 5, 0, 8}[r.Intn(7)]
				}
			case 7:
				if i%4 == 3 && r.Intn(8) == 0 {
					w[one] = newPair(t, m, one)
				}
			}
			w.step(turns > 0 && r.Intn(turns) == 0)
		}
		for _, x := range w {
			delivered += len(x.p.delivered)
			confirmed += len(x.p.confirmed)
			if s := x.n.Status(); s.Level == s3 {
				silent++
			} else if s.Level > s0 {
				worse++
			} else if s.Master {
				led++
			}
		}
	}
	if delivered < 150 || confirmed < 70 || silent < 5 || led < 10 || worse < 10 {
		t.Errorf("P24.5: too little came of it: %d delivered, %d confirmed, %d silent, %d led, %d worse", delivered, confirmed, silent, led, worse)
	}
}

// P24.2: all calls in any order, also where no bit time has it: each of them ends, and tells what a paper does.
func TestAnyOrder(t *testing.T) {
	r := rand.New(rand.NewSource(240))
	for i := range 60 {
		m := someMatrix(t, r)
		x := newPair(t, m, r.Intn(m.Nodes))
		var row string
		for range 3000 {
			if row == "" && r.Intn(40) == 0 {
				f, _ := matrix.Frame(m, r.Intn(len(m.Messages)), "on")
				if r.Intn(2) == 0 {
					f = x.build(r.Intn(len(m.Masters)), r.Intn(m.Cycles), uint16(r.Intn(65536)), r.Intn(3) == 0)
				}
				row = code.Acked(f) + "111"
			}
			switch r.Intn(6 + i%2*8) {
			case 0:
				ticks := r.Intn(12) - 2
				x.n.Tick(ticks)
				x.p.tick(ticks)
			case 1:
				same(t, "P24.2: Drive", x.n.Drive(), x.p.drive())
			case 2:
				x.send(r.Intn(len(m.Messages)), "on")
			case 3:
				x = x.copy()
			default:
				bit := []byte("1111110\x00")[r.Intn(8)]
				if row != "" {
					bit, row = row[0], row[1:]
				}
				x.n.Sample(bit)
				x.p.sample(bit)
			}
			x.look("any order")
		}
	}
}
