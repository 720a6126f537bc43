package node

import (
	"maps"
	"slices"
	"strings"
	"testing"

	"ostinato/api"
	"ostinato/config"
	"ostinato/mac"
	"ostinato/matrix"
	"ostinato/refmsg"
)

// heardBeat is a beat as a paper has it: all that it told, and when it began here.
type heardBeat struct {
	api.Beat
	mark int
}

// paper is a node by other means: times that never go round, beats in a list, windows looked at unit by unit. Its bits are layer 7's, frames of beats and messages layers 12's and 21's.
type paper struct {
	m     api.Matrix
	who   int
	wrong bool
	mac   *mac.Mac

	num, part, time int
	started, begun  bool
	start, begin    int
	cycle           int
	beats           []heardBeat

	states, got map[int]string
	events      []api.Delivery
	counters    [mostMessages]int
	came        map[int]bool

	state, leader int
	seen          int
	open          api.Trigger
	wait          int
	silent, off   bool
	delivered     []api.Delivery
	confirmed     []int
}

func newPaper(m api.Matrix, who int, wrong bool) *paper {
	return &paper{
		m: m, who: who, wrong: wrong, mac: mac.New(), num: m.Unit * 256, leader: -1, seen: -1,
		states: map[int]string{}, got: map[int]string{}, came: map[int]bool{},
	}
}

func (p *paper) copy() *paper {
	q := *p
	q.mac = p.mac.Copy()
	q.states, q.got, q.came = maps.Clone(p.states), maps.Clone(p.got), maps.Clone(p.came)
	q.beats, q.events = slices.Clone(p.beats), slices.Clone(p.events)
	q.delivered, q.confirmed = slices.Clone(p.delivered), slices.Clone(p.confirmed)
	return &q
}

func (p *paper) rank() int { return slices.Index(p.m.Masters, p.who) }

// step is a frame's 560 ticks in units, one more, and Enable.
func (p *paper) step() int { return (560+p.m.Unit-1)/p.m.Unit + 1 + p.m.Enable }

func (p *paper) later(steps int) int { return p.m.Length + steps*p.step() }

func (p *paper) at() int { return (p.time - p.begin) & 65535 }

func (p *paper) mark() int {
	if p.begun {
		return p.begin
	}
	return 0
}

func (p *paper) globalAt(t int) int {
	if len(p.beats) == 0 {
		return t & 65535
	}
	last := p.beats[len(p.beats)-1]
	return (t + int(last.Global) - last.mark) & 65535
}

// steady goes back from the last beat as long as they are of one run.
func (p *paper) steady() int {
	run := 0
	for i := len(p.beats) - 1; i >= 0 && p.beats[i].Rank == p.beats[len(p.beats)-1].Rank; i-- {
		run++
		if p.beats[i].Disc {
			break
		}
	}
	return run
}

func (p *paper) level(silent bool) int {
	most, least := 0, mostStatus
	for i := range p.m.Messages {
		most, least = max(most, p.counters[i]), min(least, p.counters[i])
	}
	switch {
	case silent:
		return s3
	case most == mostStatus:
		return s2
	case most-least > 2:
		return s1
	}
	return s0
}

func (p *paper) bad(msg int) { p.counters[msg] = min(p.counters[msg]+1, mostStatus) }

func (p *paper) good(msg int) { p.counters[msg] = max(p.counters[msg]-1, 0) }

func (p *paper) leads() bool { return p.rank() >= 0 && p.leader == p.rank() }

func (p *paper) tick(ticks int) {
	if p.wrong {
		return
	}
	was := p.time
	for p.part += min(max(ticks, 0), mostTicks) * 256; p.part >= p.num; p.part -= p.num {
		p.time++
	}
	if p.begun {
		p.work(p.at())
	} else {
		p.wait += p.time - was
		if p.rank() >= 0 && p.wait >= p.m.Init+(p.rank()+1)*p.step() {
			p.askBeat()
			p.wait = 0
		}
	}
	if p.begun && p.open.Kind != 0 && p.at() > p.open.Until {
		if p.mac.Cancel() && p.open.Kind == send {
			p.bad(p.open.Msg)
		}
		p.open = api.Trigger{}
	}
}

// dueAt is what is due at one unit, window by window, and then what is due whatever the windows.
func (p *paper) dueAt(u int) []api.Trigger {
	var due []api.Trigger
	for _, w := range p.m.Windows {
		switch own := w.Kind == exclusive && p.m.Messages[w.Msg].Owner == p.who; {
		case p.cycle%w.Repeat != w.Cycle:
		case own && u == w.Start:
			due = append(due, api.Trigger{Kind: send, Msg: w.Msg, Until: u + p.m.Enable})
		case w.Kind == exclusive && !own && u == w.End-1:
			due = append(due, api.Trigger{Kind: get, Msg: w.Msg})
		case w.Kind == arbitrating && u == w.Start:
			due = append(due, api.Trigger{Kind: arb, Until: w.End - p.step()})
		}
	}
	if p.rank() >= 0 && (u == p.m.Length || u == p.later(p.rank()+1)) {
		due = append(due, api.Trigger{Kind: ref, At: u})
	}
	if u == p.later(len(p.m.Masters)+2) {
		due = append(due, api.Trigger{Kind: watching})
	}
	return due
}

func (p *paper) work(at int) {
	var due []api.Trigger
	for ; p.seen < at; p.seen++ {
		due = append(due, p.dueAt(p.seen+1)...)
	}
	for _, d := range due {
		if d.Kind == send || d.Kind == arb {
			p.open = d
		}
	}
	for _, d := range due {
		p.do(d)
	}
}

func (p *paper) do(d api.Trigger) {
	switch d.Kind {
	case send:
		if data, ok := p.states[d.Msg]; !ok || p.state != inStep || p.level(p.silent) > s2 || !p.ask(d.Msg, data) {
			p.bad(d.Msg)
			p.open = api.Trigger{}
		}
	case arb:
		if len(p.events) == 0 || p.state != inStep || p.level(p.silent) > s1 || !p.ask(p.events[0].Msg, p.events[0].Data) {
			p.open = api.Trigger{}
		}
	case get:
		if p.state == inStep && p.came[d.Msg] {
			p.good(d.Msg)
		} else if p.state == inStep {
			p.bad(d.Msg)
		}
	case ref:
		if d.At > p.m.Length || p.state == inStep && p.leader >= p.rank() {
			if p.level(p.silent) < s3 {
				p.askBeat()
			}
		}
	case watching:
		p.state, p.leader = waiting, -1
		p.begun, p.started, p.beats = false, false, nil
		p.mac.Cancel()
		p.open = api.Trigger{}
		p.silent, p.wait = true, 0
	}
}

func (p *paper) ask(msg int, data string) bool {
	return p.mac.Ask(api.Frame{ID: p.m.Messages[msg].ID, Data: data}) == api.OK
}

// beatFrame is the beat that it would ask now, laid out by hand.
func (p *paper) beatFrame() api.Frame {
	cycle := 0
	if p.begun {
		cycle = (p.cycle + 1) % p.m.Cycles
	}
	data := []byte{byte(cycle)}
	if p.m.Level == 2 {
		disc, now := byte(1), p.globalAt(p.time)
		if p.leads() {
			disc = 0
		}
		data = append(data, disc, byte(now>>8), byte(now))
	}
	return api.Frame{ID: p.m.Ref + uint32(p.rank()), Data: string(data)}
}

func (p *paper) askBeat() { p.mac.Ask(p.beatFrame()) }

func (p *paper) drive() byte {
	if p.wrong {
		return '1'
	}
	return p.mac.Drive()
}

func (p *paper) sample(bit byte) {
	if p.wrong {
		return
	}
	for _, e := range p.mac.Sample(bit) {
		p.hear(e)
	}
}

func (p *paper) hear(e api.Event) {
	beat, isBeat := refmsg.Parse(p.m, e.F)
	msg := matrix.Find(p.m, e.F)
	own := e.Kind == api.ESent
	switch {
	case e.Kind == api.EStart:
		p.started, p.start = true, p.time
	case e.Kind == api.EOff:
		p.off = true
	case (own || e.Kind == api.EGot) && isBeat:
		p.hearBeat(beat, own)
	case msg < 0:
	case own:
		if len(p.events) > 0 && p.events[0].Msg == msg {
			p.events = p.events[1:]
		}
		p.good(msg)
		p.confirmed = append(p.confirmed, msg)
		p.open = api.Trigger{}
	case e.Kind == api.EGot:
		p.got[msg], p.came[msg] = e.F.Data, true
		if p.state == inStep {
			p.delivered = append(p.delivered, api.Delivery{Msg: msg, Data: e.F.Data})
		}
	case e.Kind == api.EFailed, e.Kind == api.ELost:
		if p.open.Kind == send {
			p.bad(msg)
		}
		p.open = api.Trigger{}
	}
}

func (p *paper) hearBeat(b api.Beat, own bool) {
	p.mac.Cancel()
	if p.started {
		p.begun, p.begin = true, p.start
	}
	p.cycle, p.seen, p.open = b.Cycle, 0, api.Trigger{}
	if p.m.Level == 1 {
		b.Global = uint16(p.globalAt(p.mark()))
	}
	p.beats = append(p.beats, heardBeat{b, p.mark()})
	if b.Rank != p.rank() && p.steady() >= 3 {
		p.setRate()
	}
	p.leader = b.Rank
	p.state = min(p.state+1, inStep)
	if own {
		p.state = inStep
	}
	p.silent, p.wait = false, 0
	clear(p.came)
}

func (p *paper) setRate() {
	last, ahead := p.beats[len(p.beats)-1], p.beats[len(p.beats)-2]
	theirs, ours := int(last.Global-ahead.Global), (last.mark-ahead.mark)&65535
	if theirs == 0 || ours == 0 {
		return
	}
	rate := p.num * ours / theirs
	if rate >= p.m.Unit*224 && rate <= p.m.Unit*288 {
		p.num = rate
		p.part = min(p.part, rate-1)
	}
}

func (p *paper) sendOf(msg int, data string) api.Errno {
	switch {
	case p.wrong:
		return 130
	case msg < 0 || msg >= len(p.m.Messages) || p.m.Messages[msg].Owner != p.who:
		return 145
	case len(data) > 8:
		return 12
	case !p.m.Messages[msg].Event:
		p.states[msg] = data
		return 0
	case len(p.events) == 4:
		return 170
	}
	p.events = append(p.events, api.Delivery{Msg: msg, Data: data})
	return 0
}

// last is the end of a list, as much of it as a node tells.
func last[T any](all []T) []T { return all[max(0, len(all)-mostEvents):] }

// pair is a node, and a paper of it that is told the same. All that they tell is held against one another at each bit.
type pair struct {
	t     *testing.T
	n     *Node
	p     *paper
	ticks int
	drove []byte
}

func newPair(t *testing.T, m api.Matrix, who int) *pair {
	t.Helper()
	x := &pair{t: t, n: New(config.Print(m), who), p: newPaper(m, who, false), ticks: 4}
	x.look("new")
	return x
}

func (x *pair) copy() *pair {
	return &pair{t: x.t, n: x.n.Copy(), p: x.p.copy(), ticks: x.ticks, drove: slices.Clone(x.drove)}
}

// look holds all that the node tells against the paper.
func (x *pair) look(what string) {
	x.t.Helper()
	n, p := x.n, x.p
	want := api.Status{State: p.state, Level: p.level(p.silent), Master: p.leads(), Off: p.off, Counts: p.mac.Counts()}
	global, at := p.globalAt(p.time), 0
	if p.begun {
		want.Cycle, at = p.cycle, p.at()
	}
	if p.wrong {
		want, global = api.Status{Level: s3}, 0
	}
	if got := n.Status(); got != want {
		x.t.Fatalf("P24.4: %s: bit %d: Status: %+v, want %+v", what, len(x.drove), got, want)
	}
	if cycle, when, ok := n.Time(); cycle != want.Cycle || when != at || ok != p.begun {
		x.t.Fatalf("P24.4: %s: bit %d: Time: %d, %d, %t, want %d, %d, %t", what, len(x.drove), cycle, when, ok, want.Cycle, at, p.begun)
	}
	if got := n.Global(); int(got) != global {
		x.t.Fatalf("P24.4: %s: bit %d: Global: %d, want %d", what, len(x.drove), got, global)
	}
	if got := n.Deliveries(); !slices.Equal(got, last(p.delivered)) {
		x.t.Fatalf("P24.3: %s: bit %d: Deliveries: %v, want %v", what, len(x.drove), got, last(p.delivered))
	}
	if got := n.Confirmed(); !slices.Equal(got, last(p.confirmed)) {
		x.t.Fatalf("P24.3: %s: bit %d: Confirmed: %v, want %v", what, len(x.drove), got, last(p.confirmed))
	}
	x.lookAtMessages(what)
}

func (x *pair) lookAtMessages(what string) {
	x.t.Helper()
	for msg := -1; msg <= mostMessages; msg++ {
		data, ok := x.p.got[msg]
		if got, there := x.n.Read(msg); got != data || there != ok {
			x.t.Fatalf("P24.4: %s: bit %d: Read(%d): %q, %t, want %q, %t", what, len(x.drove), msg, got, there, data, ok)
		}
		count := 0
		if msg >= 0 && msg < mostMessages {
			count = x.p.counters[msg]
		}
		if got := x.n.Counter(msg); got != count {
			x.t.Fatalf("P24.2: %s: bit %d: Counter(%d): %d, want %d", what, len(x.drove), msg, got, count)
		}
	}
}

// begin is a bit time up to what the node drives.
func (x *pair) begin() byte {
	x.t.Helper()
	x.n.Tick(x.ticks)
	x.p.tick(x.ticks)
	x.look("ticked")
	got, want := x.n.Drive(), x.p.drive()
	if got != want {
		x.t.Fatalf("P24.2: bit %d drove %q, want %q", len(x.drove), got, want)
	}
	x.drove = append(x.drove, got)
	return got
}

// end is what is left of a bit time.
func (x *pair) end(bit byte) {
	x.t.Helper()
	x.n.Sample(bit)
	x.p.sample(bit)
	x.look("sampled")
}

// lay is a bit time each, of a wire that has what others drive and what the node does.
func (x *pair) lay(others string) {
	x.t.Helper()
	for i := range len(others) {
		x.end(min(others[i], x.begin()))
	}
}

// force is a bit time each, of a wire that has these bits whatever the node drives.
func (x *pair) force(bits string) {
	x.t.Helper()
	for i := range len(bits) {
		x.begin()
		x.end(bits[i])
	}
}

func (x *pair) ones(n int) {
	x.t.Helper()
	x.lay(strings.Repeat("1", n))
}

func (x *pair) send(msg int, data string) api.Errno {
	x.t.Helper()
	want := x.p.sendOf(msg, data)
	got := x.n.Send(msg, data)
	if got != want {
		x.t.Fatalf("P24.4: Send(%d, %q): %v, want %v", msg, data, got, want)
	}
	return got
}
