package wire

import (
	"fmt"
	"math/rand"
	"slices"
	"testing"

	"ostinato/api"
	"ostinato/mac"
)

// As the document's table of limits has them.
const (
	mostNodes  = 8
	mostEvents = 100
	mostTrace  = 4000
)

// paper: nodes on one wire as the chapter tells them, kept by other means than the program's: all bits and all events that ever were, the wire's bit reckoned here.
type paper struct {
	macs []*mac.Mac
	row  string
	told [][]api.Event
}

func newPaper(n int) *paper {
	p := &paper{told: make([][]api.Event, n)}
	for range n {
		p.macs = append(p.macs, mac.New())
	}
	return p
}

func (p *paper) copy() *paper {
	q := &paper{row: p.row}
	for i := range p.macs {
		q.macs = append(q.macs, p.macs[i].Copy())
		q.told = append(q.told, slices.Clone(p.told[i]))
	}
	return q
}

func (p *paper) ask(who int, f api.Frame) api.Errno {
	if who < 0 || who >= len(p.macs) {
		return api.ErrWho
	}
	return p.macs[who].Ask(f)
}

func (p *paper) step(flip bool) []api.Event {
	zeros := 0
	for _, m := range p.macs {
		if m.Drive() == '0' {
			zeros++
		}
	}
	bit := byte('1')
	if (zeros > 0) != flip {
		bit = '0'
	}
	p.row += string(bit)
	var all []api.Event
	for i, m := range p.macs {
		told := m.Sample(bit)
		p.told[i] = append(p.told[i], told...)
		all = append(all, told...)
	}
	return all
}

// lastOf: the last ones of a list, or all of it.
func lastOf(all []api.Event, n int) []api.Event { return all[max(len(all)-n, 0):] }

// pair: a Wire held against the paper at everything that it is told.
type pair struct {
	t *testing.T
	w *Wire
	p *paper
}

func newPair(t *testing.T, n int) *pair {
	t.Helper()
	x := &pair{t, New(n), newPaper(n)}
	x.look("New")
	return x
}

// idlePair: the pause at the beginning is over.
func idlePair(t *testing.T, n int) *pair {
	t.Helper()
	x := newPair(t, n)
	x.run(3)
	return x
}

func (x *pair) copy() *pair {
	x.t.Helper()
	y := &pair{x.t, x.w.Copy(), x.p.copy()}
	y.look("Copy")
	return y
}

// look: all that can be asked, but what costs most: that is lookAtAll's.
func (x *pair) look(what string) {
	x.t.Helper()
	if x.w.Len() != len(x.p.macs) || x.w.Bus().Len() != len(x.p.row) {
		x.t.Fatalf("P8.1: behind %s: %d nodes, %d bits, want %d, %d", what, x.w.Len(), x.w.Bus().Len(), len(x.p.macs), len(x.p.row))
	}
	for who, m := range x.p.macs {
		if n := x.w.Mac(who); n.Drive() != m.Drive() || n.Idle() != m.Idle() || n.Busy() != m.Busy() || n.Counts() != m.Counts() {
			x.t.Fatalf("P8.1: behind %s, %d bits: node %d: Drive %q, Idle %v, Busy %v, %v", what, len(x.p.row), who, n.Drive(), n.Idle(), n.Busy(), n.Counts())
		}
	}
}

func (x *pair) lookAtAll(what string) {
	x.t.Helper()
	x.look(what)
	for who, told := range x.p.told {
		sameEvents(x.t, fmt.Sprintf("P8.1: %s: Heard(%d)", what, who), x.w.Heard(who), lastOf(told, mostEvents)...)
	}
	if row := x.p.row[max(len(x.p.row)-mostTrace, 0):]; x.w.Bus().Trace() != row {
		x.t.Fatalf("P8.2: %s: the trace %q, want %q", what, x.w.Bus().Trace(), row)
	}
}

func (x *pair) ask(who int, f api.Frame) api.Errno {
	x.t.Helper()
	got, want := x.w.Ask(who, f), x.p.ask(who, f)
	if got != want {
		x.t.Fatalf("P8.1: Ask(%d, %#v): %d, want %d", who, f, got, want)
	}
	x.look("Ask")
	return got
}

func (x *pair) step(flip bool) []api.Event {
	x.t.Helper()
	got, want := x.w.Step(flip), x.p.step(flip)
	if !slices.Equal(got, want) {
		x.t.Fatalf("P8.1: bit %d, Step(%v): %v, want %v", len(x.p.row)-1, flip, got, want)
	}
	x.look("Step")
	return got
}

// run: some bits, none turned; all that is told.
func (x *pair) run(n int) []api.Event {
	x.t.Helper()
	var told []api.Event
	for range n {
		told = append(told, x.step(false)...)
	}
	return told
}

// some: a frame that the source picks; few identifiers, so that they begin alike.
func some(r *rand.Rand) api.Frame {
	f := api.Frame{Ext: r.Intn(3) == 0, RTR: r.Intn(5) == 0, ID: uint32(r.Intn(40))}
	if f.Ext {
		f.ID = f.ID<<18 | uint32(r.Intn(3))
	}
	if !f.RTR {
		b := make([]byte, r.Intn(api.MaxData+1))
		r.Read(b)
		f.Data = string(b)
	}
	return f
}

// mishaps: what comes by chance upon a wire.
type mishaps struct {
	r      *rand.Rand
	turned int // one bit of so many is turned; 0: none
	asked  int // a node asks once in so many bits
}

func (c mishaps) bitTime(x *pair) {
	x.t.Helper()
	for who := -1; who <= len(x.p.macs); who++ {
		if c.r.Intn(c.asked) == 0 {
			x.ask(who, some(c.r))
		}
	}
	x.step(c.turned > 0 && c.r.Intn(c.turned) == 0)
}

// P8.1, P8.2: wires of all lengths, from none turned of their bits to many.
func TestAsOnPaper(t *testing.T) {
	for seed := range int64(48) {
		c := mishaps{rand.New(rand.NewSource(seed)), []int{0, 2000, 300, 100, 20, 3}[seed%6], 30 + int(seed)}
		x := newPair(t, 1+int(seed)%mostNodes)
		for i := range 1500 {
			c.bitTime(x)
			if i%50 == 0 {
				x.lookAtAll("by chance")
			}
		}
		x.lookAtAll("by chance, the end")
	}
}

// P8.1, P8.2: for long: past the trace's limit, and the events'.
func TestAsOnPaperForLong(t *testing.T) {
	for _, turned := range []int{0, 400} {
		c := mishaps{rand.New(rand.NewSource(81)), turned, 40}
		x := newPair(t, 5)
		for i := range 3*mostTrace + 7 {
			c.bitTime(x)
			if i%97 == 0 || i >= mostTrace-2 && i <= mostTrace+2 {
				x.lookAtAll("for long")
			}
		}
		x.lookAtAll("for long, the end")
		if n := len(x.p.told[0]); n <= mostEvents {
			t.Fatalf("only %d events: no test of the limit", n)
		}
	}
}

// P8.1: copies made by chance, and copies of these, go on as the paper does, whoever of them is stepped first.
func TestCopiesAsOnPaper(t *testing.T) {
	for seed := range int64(8) {
		r := rand.New(rand.NewSource(8000 + seed))
		c := mishaps{r, 80, 20}
		all := []*pair{newPair(t, 1+int(seed))}
		for i := range 1500 {
			for range len(all) {
				c.bitTime(all[r.Intn(len(all))])
			}
			if i%20 == 0 {
				y := all[r.Intn(len(all))].copy()
				if len(all) < 6 {
					all = append(all, y)
				} else {
					all[r.Intn(len(all))] = y
				}
			}
			if i%100 == 0 {
				for _, x := range all {
					x.lookAtAll("copies")
				}
			}
		}
		for _, x := range all {
			x.lookAtAll("copies, the end")
		}
	}
}
