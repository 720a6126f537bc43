package mac

import (
	"math/rand"
	"slices"
	"strings"
	"testing"

	"ostinato/api"
	"ostinato/bits"
	"ostinato/code"
	"ostinato/frame"
	"ostinato/stuff"
)

// paper: a node as the chapter tells it, kept by other means than the program's: it reads all bits so far anew whenever it is asked.
type paper struct {
	state  string
	sender bool
	seen   string // in a frame
	told   bool   // in a frame: it has come
	left   int    // flagging, pausing
	ones   int    // recovering: how many behind the first one; -1: that one didn't come
	frames []api.Frame
	counts api.Counts
}

func newPaper() paper { return paper{state: "pausing", left: 3} }

func (p *paper) ask(f api.Frame) api.Errno {
	switch {
	case p.state == "off":
		return api.ErrOff
	case !frame.Is(f):
		return api.ErrForm
	case len(p.frames) > 0:
		return api.ErrBusy
	}
	p.frames = []api.Frame{f}
	return api.OK
}

func (p *paper) cancel() bool {
	if len(p.frames) == 0 || p.state == "in" && p.sender {
		return false
	}
	p.frames = nil
	return true
}

// secondBehindSum: whether the second bit behind the sum comes next, and the sum is right.
func secondBehindSum(seen string) bool {
	if seen == "" {
		return false
	}
	part := seen[:len(seen)-1] // behind it stands the first one
	left, _ := stuff.Unstuff(part)
	_, body, e := frame.Parse(left)
	return e == api.OK && len(left) == body+15 && stuff.Next(part) == -1 && bits.CRC(left) == 0
}

func (p *paper) passive() bool { return p.counts.Sent >= 128 || p.counts.Got >= 128 }

func (p *paper) drive() byte {
	switch {
	case p.state == "in" && p.sender:
		return code.Encode(p.frames[0])[len(p.seen)]
	case p.state == "in" && secondBehindSum(p.seen),
		p.state == "flagging" && !p.passive(),
		p.state == "idle" && len(p.frames) > 0:
		return '0'
	}
	return '1'
}

func (p *paper) sample(level byte) []api.Event {
	bit := "1"
	if level == '0' {
		bit = "0"
	}
	switch p.state {
	case "idle", "pausing":
		if bit == "0" {
			p.sender = p.state == "idle" && len(p.frames) > 0
			p.state, p.seen, p.told = "in", "0", false
			return []api.Event{{Kind: api.EStart}}
		}
		p.left--
		if p.left <= 0 {
			p.state = "idle"
		}
	case "in":
		if p.sender {
			return p.send(bit)
		}
		return p.hear(bit)
	case "flagging":
		p.left--
		if p.left == 0 {
			p.state, p.ones = "recovering", -1
		}
	case "recovering":
		switch {
		case bit == "1":
			p.ones++
		case p.ones > 0:
			p.ones = 0
		}
		if p.ones == 7 {
			p.state, p.left = "pausing", 3
		}
	}
	return nil
}

func (p *paper) send(bit string) []api.Event {
	f := p.frames[0]
	row := code.Encode(f)
	at := len(p.seen)
	bad := api.OK
	switch {
	case row[at] == '1' && bit == "0" && at < len(stuff.Stuff(frame.Arb(f))):
		p.frames, p.sender = nil, false
		return append([]api.Event{{Kind: api.ELost, F: f}}, p.hear(bit)...)
	case at == len(row)-9 && bit == "1":
		bad = api.ErrAck
	case at != len(row)-9 && bit != row[at:at+1]:
		bad = api.ErrBit
	}
	p.seen += bit
	if bad != api.OK {
		p.frames = nil
		p.counts.Sent += 8
		p.state, p.left = "flagging", 6
		told := []api.Event{{Kind: api.EFailed, F: f, E: bad}}
		if p.counts.Sent >= 256 {
			p.state = "off"
			told = append(told, api.Event{Kind: api.EOff})
		}
		return told
	}
	if len(p.seen) < len(row) {
		return nil
	}
	p.frames = nil
	p.counts.Sent = max(p.counts.Sent-1, 0)
	p.state, p.left = "pausing", 3
	return []api.Event{{Kind: api.ESent, F: f}}
}

func (p *paper) hear(bit string) []api.Event {
	if p.told {
		p.state, p.left = "pausing", 3
		return nil
	}
	p.seen += bit
	if _, _, e := code.Decode(p.seen); e != api.ErrShort {
		p.counts.Got = min(p.counts.Got+1, 1000)
		p.state, p.left = "flagging", 6
		return []api.Event{{Kind: api.EError, E: e}}
	}
	f, n, e := code.Decode(p.seen + "1")
	if e != api.OK || n != len(p.seen)+1 {
		return nil
	}
	p.told = true
	if p.counts.Got--; p.counts.Got >= 127 {
		p.counts.Got = 120
	}
	p.counts.Got = max(p.counts.Got, 0)
	return []api.Event{{Kind: api.EGot, F: f}}
}

// name: the state, with what of it makes a node do otherwise.
func (p *paper) name() string {
	name := p.state
	switch {
	case p.state == "in" && p.sender:
		name = "sending"
	case p.state == "in" && p.told:
		name = "at the last bit"
	case p.state == "in" && secondBehindSum(p.seen):
		name = "taking"
	case p.state == "in":
		name = "hearing"
	case p.state == "flagging" && p.passive():
		name = "flagging, passive"
	case p.state == "recovering" && p.ones < 0:
		name = "recovering, no 1 yet"
	}
	if len(p.frames) > 0 && name != "sending" {
		name += ", a frame waits"
	}
	return name
}

// pair: a Mac held against the paper at everything that it is told.
type pair struct {
	t *testing.T
	m *Mac
	p paper
}

func newPair(t *testing.T) *pair {
	x := &pair{t, New(), newPaper()}
	x.look("New")
	return x
}

// idlePair: the pause at the beginning is over.
func idlePair(t *testing.T) *pair {
	x := newPair(t)
	x.feed("111")
	return x
}

func (x *pair) copy() *pair {
	y := &pair{x.t, x.m.Copy(), x.p}
	y.p.frames = slices.Clone(x.p.frames)
	return y
}

// look: all that can be asked; Drive twice, as it is to change nothing.
func (x *pair) look(what string) {
	x.t.Helper()
	if d, again := x.m.Drive(), x.m.Drive(); d != x.p.drive() || again != d {
		x.t.Fatalf("P7.2: behind %s, %s: Drive %q, %q, want %q", what, x.p.name(), d, again, x.p.drive())
	}
	if x.m.Idle() != (x.p.state == "idle") || x.m.Busy() != (len(x.p.frames) > 0) || x.m.Counts() != x.p.counts {
		x.t.Fatalf("P7.3: behind %s, %s: Idle %v, Busy %v, %v, want %v", what, x.p.name(), x.m.Idle(), x.m.Busy(), x.m.Counts(), x.p.counts)
	}
}

func (x *pair) ask(f api.Frame) api.Errno {
	x.t.Helper()
	was := x.p
	got, want := x.m.Ask(f), x.p.ask(f)
	if got != want {
		x.t.Fatalf("P7.1: %s: Ask(%#v): %d, want %d", was.name(), f, got, want)
	}
	x.look("Ask")
	return got
}

func (x *pair) cancel() bool {
	x.t.Helper()
	was := x.p
	got, want := x.m.Cancel(), x.p.cancel()
	if got != want {
		x.t.Fatalf("P7.1: %s: Cancel: %v, want %v", was.name(), got, want)
	}
	x.look("Cancel")
	return got
}

func (x *pair) step(level byte) []api.Event {
	x.t.Helper()
	was := x.p
	got, want := x.m.Sample(level), x.p.sample(level)
	if !slices.Equal(got, want) {
		x.t.Fatalf("P7.3: %s, %d bits of a frame seen: Sample(%q): %v, want %v", was.name(), len(x.p.seen), level, got, want)
	}
	x.look("Sample")
	return got
}

// feed: each level one bit; all that is told.
func (x *pair) feed(levels string) []api.Event {
	x.t.Helper()
	var told []api.Event
	for i := range len(levels) {
		told = append(told, x.step(levels[i])...)
	}
	return told
}

// quiet: levels of which nothing is told.
func (x *pair) quiet(levels string) {
	x.t.Helper()
	if told := x.feed(levels); len(told) > 0 {
		x.t.Fatalf("P7.3: %q: %v, want nothing", levels, told)
	}
}

// mishaps: what comes by chance upon some nodes on one wire.
type mishaps struct {
	r      *rand.Rand
	turned int // one bit of so many is turned
	frame  func() api.Frame
}

func strongest(nodes []*pair) byte {
	for _, x := range nodes {
		if x.m.Drive() == '0' {
			return '0'
		}
	}
	return '1'
}

// bitTime: the wire has one bit for all; of who waits for nothing some ask, of the others few go back.
func (c mishaps) bitTime(nodes []*pair) {
	for _, x := range nodes {
		switch {
		case c.r.Intn(30) == 0:
			x.ask(c.frame())
		case c.r.Intn(300) == 0:
			x.cancel()
		}
	}
	level := strongest(nodes)
	if c.turned > 0 && c.r.Intn(c.turned) == 0 {
		level ^= '0' ^ '1'
	}
	if level == '1' && c.r.Intn(10) == 0 { // any other sign is a 1, too
		level = "x\x00\xff/2 O\x01"[c.r.Intn(8)]
	}
	for _, x := range nodes {
		x.step(level)
	}
}

// some: a frame that the source picks; few identifiers, so that they begin alike.
func some(r *rand.Rand) api.Frame {
	f := api.Frame{Ext: r.Intn(3) == 0, RTR: r.Intn(5) == 0, ID: uint32(r.Intn(40))}
	if r.Intn(4) == 0 {
		f.ID = uint32(r.Intn(1 << 11))
	}
	if f.Ext {
		f.ID = f.ID<<18 | uint32(r.Intn(3))
	}
	if !f.RTR {
		b := make([]byte, r.Intn(api.MaxData+1))
		if r.Intn(3) > 0 {
			r.Read(b)
		}
		f.Data = string(b)
	}
	return f
}

// P7.1, P7.2, P7.3: some nodes on one wire, from none turned of its bits to many.
func TestAsOnPaper(t *testing.T) {
	seen := map[string]int{}
	for seed := range int64(24) {
		r := rand.New(rand.NewSource(seed))
		c := mishaps{r, []int{0, 2000, 300, 100, 20, 3}[seed%6], func() api.Frame { return some(r) }}
		nodes := []*pair{}
		for range 1 + r.Intn(4) {
			nodes = append(nodes, newPair(t))
		}
		for range 4000 {
			c.bitTime(nodes)
			seen[nodes[0].p.name()]++
		}
	}
	for _, name := range strings.Split("idle|sending|hearing|taking|at the last bit|flagging|flagging, passive|recovering, no 1 yet|recovering|pausing|off", "|") {
		if seen[name] == 0 {
			t.Errorf("no node was seen %s", name)
		}
	}
}

// P7.3: each node sees bits of its own, as no wire has them.
func TestAsOnPaperAnyBits(t *testing.T) {
	for seed := range int64(120) {
		r := rand.New(rand.NewSource(1000 + seed))
		x := newPair(t)
		for range 500 {
			if r.Intn(20) == 0 {
				x.ask(some(r))
			}
			level := x.m.Drive()
			if r.Intn(1+int(seed%12)) == 0 {
				level = "01"[r.Intn(2)]
			}
			x.step(level)
		}
	}
}

// P7.3: a copy made at each bit goes on as the paper does, and so does what it was made of.
func TestCopiesAsOnPaper(t *testing.T) {
	seen := map[string]int{}
	for seed := range int64(6) {
		r := rand.New(rand.NewSource(2000 + seed))
		c := mishaps{r, 60, func() api.Frame { return some(r) }}
		nodes := []*pair{newPair(t), newPair(t)}
		if seed%2 == 0 {
			nodes = nodes[:1] // whoever is alone is passive soon, then off
		}
		for range 5000 {
			c.bitTime(nodes)
			x := nodes[0]
			seen[x.p.name()]++
			if r.Intn(10) > 0 && seen[x.p.name()] > 20 {
				continue
			}
			one, other := x.copy(), x.copy()
			for range 60 {
				c.bitTime([]*pair{one})
				c.bitTime([]*pair{other})
			}
			x.look("a copy's ways")
		}
	}
	for _, name := range strings.Split("idle|idle, a frame waits|sending|hearing|hearing, a frame waits|taking|at the last bit|flagging|flagging, passive|recovering, no 1 yet|recovering|pausing|pausing, a frame waits|off", "|") {
		if seen[name] == 0 {
			t.Errorf("no copy was made %s", name)
		}
	}
}
