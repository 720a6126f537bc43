package object

import (
	"fmt"
	"maps"
	"math"
	"math/rand"
	"slices"
	"strings"
	"sync"
	"testing"

	"ostinato/api"
)

// The limits and numbers of the document, written out.
const (
	mostData  = 8
	mostQueue = 4
	noSuch    = api.Errno(145)
	full      = api.Errno(170)
	tooLong   = api.Errno(12)
)

// far: numbers that no message has; some of them would be one's if but their low bits were looked at.
var far = []int{math.MinInt, math.MinInt + 2, -1 << 32, -1<<32 + 2, -65536, -256, -12, -2, -1, 6, 7, 12, 13, 99, 100, 256, 256 + 2, 65536, 65536 + 2, 1 << 31, 1 << 32, 1<<32 + 2, math.MaxInt - 1, math.MaxInt}

// plain: of node 2 are the states 0 and 4 and the events 2 and 5; of others a state and an event.
func plain() api.Matrix {
	return api.Matrix{
		Level: 1, Nodes: 3, Cycles: 1, Length: 400, Enable: 4, Unit: 16,
		Masters: []int{0},
		Messages: []api.Message{
			{ID: 100, Owner: 2},
			{ID: 50, Owner: 1},
			{ID: 70, Owner: 2, Event: true},
			{ID: 60, Owner: 0, Event: true},
			{ID: 20, Owner: 2},
			{ID: 10, Owner: 2, Event: true},
		},
		Windows: []api.Window{{Kind: api.WExclusive, Start: 50, End: 100, Repeat: 1}},
	}
}

const me = 2 // whose plain's tests are

func of(msg int, data string) api.Delivery { return api.Delivery{Msg: msg, Data: data} }

// paper is what the chapter's words make, by lists.
type paper struct {
	messages []api.Message
	who      int
	states   map[int]string
	came     map[int]string
	events   []api.Delivery
}

func newPaper(m api.Matrix, who int) *paper {
	return &paper{slices.Clone(m.Messages), who, map[int]string{}, map[int]string{}, nil}
}

func (p *paper) is(msg int) bool { return msg >= 0 && msg < len(p.messages) }

func (p *paper) send(msg int, data string) api.Errno {
	if !p.is(msg) || p.messages[msg].Owner != p.who {
		return noSuch
	}
	if len(data) > mostData {
		return tooLong
	}
	if !p.messages[msg].Event {
		p.states[msg] = data
		return 0
	}
	if len(p.events) == mostQueue {
		return full
	}
	p.events = append(p.events, of(msg, data))
	return 0
}

func (p *paper) sent(msg int) {
	if p.is(msg) && p.messages[msg].Event && len(p.events) > 0 && p.events[0].Msg == msg {
		p.events = p.events[1:]
	}
}

func (p *paper) got(msg int, data string) {
	if p.is(msg) {
		p.came[msg] = data
	}
}

func (p *paper) copy() *paper {
	return &paper{p.messages, p.who, maps.Clone(p.states), maps.Clone(p.came), slices.Clone(p.events)}
}

// pair: an object and its paper, to which the same is told.
type pair struct {
	t    *testing.T
	what string
	o    *Objects
	p    *paper
}

// pairOf begins one, and looks at it.
func pairOf(t *testing.T, what string, m api.Matrix, who int) *pair {
	t.Helper()
	x := &pair{t, what, New(m, who), newPaper(m, who)}
	return x.same("new")
}

// asked: all messages and some numbers that are none.
func (x *pair) asked() []int {
	out := slices.Clone(far)
	for msg := range x.p.messages {
		out = append(out, msg)
	}
	return out
}

// dataIs: what State or Read told, against a paper's map.
func (x *pair) dataIs(step, call string, msg int, got string, ok bool, all map[int]string) {
	x.t.Helper()
	want, there := all[msg]
	if got != want || ok != there {
		x.t.Fatalf("P18.1: %s, %s: %s of %d: %q, %v, want %q, %v", x.what, step, call, msg, got, ok, want, there)
	}
}

// events: what waits, all of it, by way of a copy that is sent empty.
func (x *pair) events(step string) {
	x.t.Helper()
	o := x.o.Copy()
	for n, want := range x.p.events {
		d, ok := o.Event()
		if d != want || !ok || o.Waiting() != len(x.p.events)-n {
			x.t.Fatalf("P18.1: %s, %s: event %d: %v, %v, %d wait, want %v", x.what, step, n, d, ok, o.Waiting(), want)
		}
		o.Sent(d.Msg)
	}
	if d, ok := o.Event(); d != (api.Delivery{}) || ok || o.Waiting() != 0 {
		x.t.Fatalf("P18.1: %s, %s: behind %d events: %v, %v, %d wait", x.what, step, len(x.p.events), d, ok, o.Waiting())
	}
}

// same: all that an object can tell, asked twice: to be asked changes nothing.
func (x *pair) same(step string) *pair {
	x.t.Helper()
	for _, turn := range []string{step, step + ", asked again"} {
		for _, msg := range x.asked() {
			s, ok := x.o.State(msg)
			x.dataIs(turn, "State", msg, s, ok, x.p.states)
			s, ok = x.o.Read(msg)
			x.dataIs(turn, "Read", msg, s, ok, x.p.came)
		}
		if n := x.o.Waiting(); n != len(x.p.events) {
			x.t.Fatalf("P18.1: %s, %s: %d wait, want %d", x.what, turn, n, len(x.p.events))
		}
		first := append(slices.Clone(x.p.events), api.Delivery{})[0]
		if d, ok := x.o.Event(); d != first || ok != (len(x.p.events) > 0) {
			x.t.Fatalf("P18.1: %s, %s: Event: %v, %v, want %v", x.what, turn, d, ok, first)
		}
		x.events(turn)
	}
	return x
}

func (x *pair) send(msg int, data string, want api.Errno) *pair {
	x.t.Helper()
	step := fmt.Sprintf("Send of %d, %q", msg, data)
	if e := x.o.Send(msg, data); e != want {
		x.t.Fatalf("P18.1: %s, %s: %v, want %v", x.what, step, e, want)
	}
	if e := x.p.send(msg, data); e != want {
		x.t.Fatalf("%s, %s: the paper tells %v, the test %v", x.what, step, e, want)
	}
	return x.same(step)
}

func (x *pair) sent(msg int) *pair {
	x.t.Helper()
	x.o.Sent(msg)
	x.p.sent(msg)
	return x.same(fmt.Sprintf("Sent of %d", msg))
}

func (x *pair) got(msg int, data string) *pair {
	x.t.Helper()
	x.o.Got(msg, data)
	x.p.got(msg, data)
	return x.same(fmt.Sprintf("Got of %d, %q", msg, data))
}

func (x *pair) copy(what string) *pair {
	x.t.Helper()
	other := &pair{x.t, what, x.o.Copy(), x.p.copy()}
	x.same("copied")
	return other.same("a copy")
}

// state: what the document asks, written out: State of a message.
func (x *pair) state(promise string, msg int, want string) {
	x.t.Helper()
	if s, ok := x.o.State(msg); s != want || !ok {
		x.t.Fatalf("%s: %s: State of %d: %q, %v, want %q", promise, x.what, msg, s, ok, want)
	}
}

func (x *pair) noState(promise string, msg int) {
	x.t.Helper()
	if s, ok := x.o.State(msg); s != "" || ok {
		x.t.Fatalf("%s: %s: State of %d: %q, %v, want none", promise, x.what, msg, s, ok)
	}
}

func (x *pair) read(msg int, want string) {
	x.t.Helper()
	if s, ok := x.o.Read(msg); s != want || !ok {
		x.t.Fatalf("P18.1: %s: Read of %d: %q, %v, want %q", x.what, msg, s, ok, want)
	}
}

func (x *pair) noRead(msg int) {
	x.t.Helper()
	if s, ok := x.o.Read(msg); s != "" || ok {
		x.t.Fatalf("P18.1: %s: Read of %d: %q, %v, want none", x.what, msg, s, ok)
	}
}

// waits: what waits first, and how many.
func (x *pair) waits(promise string, n int, first api.Delivery) {
	x.t.Helper()
	if d, ok := x.o.Event(); d != first || ok != (n > 0) || x.o.Waiting() != n {
		x.t.Fatalf("%s: %s: %v, %v, %d wait, want %v, %d", promise, x.what, d, ok, x.o.Waiting(), first, n)
	}
}

// anyData: of all lengths that a frame has, and signs of every kind.
func anyData() []string {
	out := []string{"", "\x00", "\x00\x00\x00\x00\x00\x00\x00\x00", "\xff\xfe\x80\x00", "\u00e9\u20ac", "a b\nc", "\xff\xff\xff\xff\xff\xff\xff\xff"}
	for n := range mostData + 1 {
		out = append(out, "12345678"[:n])
	}
	return out
}

// longData: one byte too many, and more; the second has fewer signs than bytes.
func longData() []string {
	return []string{"123456789", "\u00e9\u00e9\u00e9\u00e9\u00e9", "\x00\x00\x00\x00\x00\x00\x00\x00\x00", strings.Repeat("x", 16), strings.Repeat("y", 256), strings.Repeat("z", 65536+4)}
}

func TestLimits(t *testing.T) {
	if api.MaxData != mostData || api.MaxQueue != mostQueue || api.ErrNone != noSuch || api.ErrFull != full || api.ErrForm != tooLong {
		t.Fatal("P18.1: other limits or numbers than the tests have")
	}
}

// The chapter's example.
func TestExample(t *testing.T) {
	x := pairOf(t, "example", api.Matrix{Messages: []api.Message{{}}}, 0)
	x.send(0, "x", 0).state("P18.1", 0, "x")
}

// Rows of all calls, their answers written out.
func TestRows(t *testing.T) {
	x := pairOf(t, "rows", plain(), me)
	x.waits("P18.1", 0, api.Delivery{})
	x.send(0, "on", 0).state("P18.1", 0, "on")
	x.noState("P18.1", 4)
	x.send(5, "e1", 0).waits("P18.1", 1, of(5, "e1"))
	x.send(2, "e2", 0).waits("P18.1", 2, of(5, "e1"))
	x.send(4, "four", 0).state("P18.1", 4, "four")
	x.state("P18.1", 0, "on")
	x.sent(0).waits("P18.1", 2, of(5, "e1"))
	x.sent(2).waits("P18.1", 2, of(5, "e1"))
	x.sent(5).waits("P18.1", 1, of(2, "e2"))
	x.got(1, "in").read(1, "in")
	x.noRead(3)
	x.got(3, "ev").read(3, "ev")
	x.got(1, "").read(1, "")
	x.send(0, "off", 0).state("P18.1", 0, "off")
	x.sent(2).waits("P18.1", 0, api.Delivery{})
	x.state("P18.1", 4, "four")
	x.read(3, "ev")
}

// Which messages are one's own, each of all nodes: of others', and of those that there aren't, ErrNone, whatever the data.
func TestSendOfWhom(t *testing.T) {
	m := plain()
	for _, who := range []int{math.MinInt, -1, 0, 1, 2, 3, 4, 7, 8, 99, 100, 256 + 2, 1<<32 + 2, math.MaxInt} {
		for msg := range m.Messages {
			x := pairOf(t, fmt.Sprintf("node %d", who), m, who)
			if m.Messages[msg].Owner == who {
				x.send(msg, "mine", 0)
				continue
			}
			for _, data := range []string{"", "x", "12345678", "123456789"} {
				x.send(msg, data, noSuch)
			}
		}
	}
}

func TestSendOfNoMessage(t *testing.T) {
	x := pairOf(t, "no message", plain(), me)
	x.send(0, "s", 0).send(2, "e", 0).got(1, "g")
	for _, msg := range far {
		for _, data := range []string{"", "x", "12345678", "123456789"} {
			x.send(msg, data, noSuch)
			x.noState("P18.1", msg)
		}
	}
	x.state("P18.1", 0, "s")
	x.waits("P18.1", 1, of(2, "e"))
	x.read(1, "g")
}

func TestSendOfAnyData(t *testing.T) {
	x := pairOf(t, "any data", plain(), me)
	for _, data := range anyData() {
		x.send(0, data, 0).state("P18.1", 0, data)
		x.send(2, data, 0).waits("P18.1", 1, of(2, data))
		x.sent(2).waits("P18.1", 0, api.Delivery{})
	}
}

// What is too long is refused of states and events, ahead of the first one and behind it, of a full queue as well; nothing is changed, not cut either.
func TestSendOfTooLong(t *testing.T) {
	for _, data := range longData() {
		if len(data) <= mostData {
			t.Fatalf("the test's %q isn't too long", data)
		}
		x := pairOf(t, "too long", plain(), me)
		x.send(0, data, tooLong).noState("P18.1", 0)
		x.send(2, data, tooLong).waits("P18.1", 0, api.Delivery{})
		x.send(0, "12345678", 0).send(0, data, tooLong).state("P18.1", 0, "12345678")
		x.send(2, "87654321", 0).send(2, data, tooLong).waits("P18.1", 1, of(2, "87654321"))
		x.send(2, "", 0).send(5, "", 0).send(2, "", 0).send(5, "", full)
		x.send(2, data, tooLong).send(5, data, tooLong).waits("P18.1", mostQueue, of(2, "87654321"))
		x.send(1, data, noSuch).send(3, data, noSuch)
	}
}

// P18.2: a state is there for each of the cycles, as it was sent last; neither to be told nor to be sent takes it away.
func TestStateAgainAndAgain(t *testing.T) {
	x := pairOf(t, "states", plain(), me)
	for range 20 {
		x.noState("P18.2", 0)
	}
	for n, data := range []string{"a", "b", "", "b", "b", "12345678", "\x00"} {
		x.send(0, data, 0)
		for range 20 {
			x.state("P18.2", 0, data)
			x.o.Sent(0)
			x.p.sent(0)
		}
		x.sent(0).noState("P18.2", 4)
		x.waits("P18.2", 0, api.Delivery{})
		if n > 0 {
			x.send(0, "123456789", tooLong).state("P18.2", 0, data)
		}
	}
}

// A state of no bytes is there; one that was never sent isn't.
func TestStateOfNoBytes(t *testing.T) {
	x := pairOf(t, "no bytes", plain(), me)
	x.noState("P18.1", 4)
	x.send(4, "", 0).state("P18.1", 4, "")
	x.noState("P18.1", 0)
}

// State tells what Send laid there: neither events nor what came, also not of one's own.
func TestStateOfOthers(t *testing.T) {
	x := pairOf(t, "not states", plain(), me)
	x.send(2, "e", 0).noState("P18.1", 2)
	x.got(0, "g").noState("P18.1", 0)
	x.got(1, "g").noState("P18.1", 1)
	x.got(2, "g").noState("P18.1", 2)
	x.send(0, "s", 0).got(0, "h").state("P18.1", 0, "s")
	x.sent(2).noState("P18.1", 2)
}

// P18.2: an event comes once, in the order in which they were sent, whichever messages they are of.
func TestEventOnce(t *testing.T) {
	for _, row := range [][]int{{2, 2, 2, 2}, {5, 5, 5, 5}, {2, 5, 2, 5}, {5, 2, 2, 5}, {5, 5, 2}, {2}} {
		x := pairOf(t, fmt.Sprint("events ", row), plain(), me)
		for n, msg := range row {
			x.send(msg, fmt.Sprint("e", n), 0).waits("P18.2", n+1, of(row[0], "e0"))
		}
		for n, msg := range row {
			for range 5 {
				x.waits("P18.2", len(row)-n, of(msg, fmt.Sprint("e", n)))
			}
			x.sent(2+5-msg).waits("P18.2", len(row)-n, of(msg, fmt.Sprint("e", n)))
			x.sent(msg)
		}
		x.waits("P18.2", 0, api.Delivery{})
		x.sent(2).sent(5).waits("P18.2", 0, api.Delivery{})
		x.send(5, "again", 0).waits("P18.2", 1, of(5, "again"))
	}
}

// Two of the same message and data are two.
func TestEventsAlike(t *testing.T) {
	x := pairOf(t, "alike", plain(), me)
	x.send(2, "e", 0).send(2, "e", 0).waits("P18.2", 2, of(2, "e"))
	x.sent(2).waits("P18.2", 1, of(2, "e"))
	x.sent(2).waits("P18.2", 0, api.Delivery{})
}

// Sent of anything but the first one's message does nothing: of a state, another event, others' messages, none.
func TestSentOfAnother(t *testing.T) {
	x := pairOf(t, "another", plain(), me)
	for _, msg := range x.asked() {
		x.sent(msg).waits("P18.1", 0, api.Delivery{})
	}
	x.send(0, "s", 0).send(2, "e", 0).send(5, "f", 0).got(1, "g")
	for _, msg := range x.asked() {
		if msg != 2 {
			x.sent(msg).waits("P18.1", 2, of(2, "e"))
		}
	}
	x.sent(2).waits("P18.1", 1, of(5, "f"))
	x.state("P18.1", 0, "s")
	x.read(1, "g")
}

// Message 0 is a message like others: what is empty has nothing of it.
func TestEventOfMessageNought(t *testing.T) {
	m := api.Matrix{Messages: []api.Message{{Owner: 1, Event: true}, {Owner: 1, Event: true}}}
	x := pairOf(t, "message 0", m, 1)
	x.sent(0).waits("P18.1", 0, api.Delivery{})
	x.send(0, "", 0).waits("P18.1", 1, of(0, ""))
	x.sent(1).waits("P18.1", 1, of(0, ""))
	x.sent(0).waits("P18.1", 0, api.Delivery{})
	x.send(1, "x", 0).sent(0).waits("P18.1", 1, of(1, "x"))
	x.sent(1).sent(0).waits("P18.1", 0, api.Delivery{})
}

// All events together have room for so many; what has none is refused as often as one likes, and what goes makes room for one.
func TestFull(t *testing.T) {
	for _, row := range [][]int{{2, 2, 2, 2}, {5, 2, 5, 2}, {2, 5, 5, 5}} {
		x := pairOf(t, fmt.Sprint("full of ", row), plain(), me)
		for n, msg := range row {
			x.send(msg, fmt.Sprint(n), 0)
		}
		for n := range 20 {
			x.send(2, fmt.Sprint("no", n), full).send(5, "", full).waits("P18.1", mostQueue, of(row[0], "0"))
		}
		x.send(0, "s", 0).state("P18.1", 0, "s")
		x.sent(row[0]).waits("P18.1", mostQueue-1, of(row[1], "1"))
		x.send(5, "4", 0).send(5, "no", full).send(2, "no", full)
		for n, msg := range append(row[1:], 5) {
			x.waits("P18.1", mostQueue-n, of(msg, fmt.Sprint(n+1)))
			x.sent(msg)
		}
		x.waits("P18.1", 0, api.Delivery{})
	}
}

// Filled and emptied many times over, one behind the other.
func TestManyEvents(t *testing.T) {
	x := pairOf(t, "many events", plain(), me)
	for n := range 100 {
		for k := range 1 + n%mostQueue {
			x.send([]int{2, 5}[(n+k)%2], fmt.Sprint(n, ".", k), 0)
		}
		for k := range 1 + n%mostQueue {
			x.waits("P18.2", 1+n%mostQueue-k, of([]int{2, 5}[(n+k)%2], fmt.Sprint(n, ".", k)))
			x.sent([]int{2, 5}[(n+k)%2])
		}
	}
}

// What came last, of each message that there is: one's own too, events too, of any bytes and as many.
func TestGot(t *testing.T) {
	x := pairOf(t, "what came", plain(), me)
	for msg := range x.p.messages {
		for range 3 {
			x.noRead(msg)
		}
		for _, data := range append(anyData(), longData()...) {
			x.o.Got(msg, data)
			x.p.got(msg, data)
			x.read(msg, data)
			x.read(msg, data)
		}
		x.got(msg, fmt.Sprint("last of ", msg))
	}
	for msg := range x.p.messages {
		x.read(msg, fmt.Sprint("last of ", msg))
		x.noState("P18.1", msg)
	}
	x.waits("P18.1", 0, api.Delivery{})
}

// Data of no bytes came as well.
func TestGotOfNoBytes(t *testing.T) {
	x := pairOf(t, "nothing in it", plain(), me)
	x.got(3, "").read(3, "")
	x.noRead(1)
}

func TestGotOfNoMessage(t *testing.T) {
	x := pairOf(t, "no message came", plain(), me)
	for _, msg := range far {
		x.got(msg, "no").noRead(msg)
	}
	for msg := range x.p.messages {
		x.noRead(msg)
	}
}

// What is sent isn't what came.
func TestReadOfSent(t *testing.T) {
	x := pairOf(t, "sent", plain(), me)
	x.send(0, "s", 0).noRead(0)
	x.send(2, "e", 0).noRead(2)
	x.sent(2).noRead(2)
	x.got(0, "g").send(0, "t", 0).read(0, "g")
}

// Of what there isn't: no messages, no node of that number, no matrix at all; every call ends, and there is nothing.
func TestNothingThere(t *testing.T) {
	most := plain()
	most.Messages = nil
	for what, m := range map[string]api.Matrix{"no matrix": {}, "no messages": most, "an empty list": {Messages: []api.Message{}}} {
		for _, who := range []int{math.MinInt, -1, 0, 2, 8, 99, math.MaxInt} {
			x := pairOf(t, what, m, who)
			for _, msg := range append(slices.Clone(far), 0, 1, 2, 3, 4, 5) {
				x.send(msg, "x", noSuch).send(msg, "123456789", noSuch).sent(msg).got(msg, "x")
				x.noRead(msg)
			}
			x.copy("a copy of nothing").send(0, "", noSuch).got(0, "").waits("P18.1", 0, api.Delivery{})
		}
	}
	x := pairOf(t, "no such node", plain(), 8)
	for msg := range x.p.messages {
		x.send(msg, "x", noSuch).got(msg, "came").read(msg, "came")
	}
	x.waits("P18.1", 0, api.Delivery{})
}

// Also of what is no matrix, or can't be: messages and their owners are taken by the words alone.
func TestAnyMatrix(t *testing.T) {
	m := api.Matrix{Level: -3, Nodes: math.MinInt, Masters: []int{-1, -1}}
	for n := range 40 {
		m.Messages = append(m.Messages, api.Message{ID: math.MaxUint32, Owner: n%4 - 1, Event: n%3 == 0})
	}
	for who := -1; who <= 2; who++ {
		x := pairOf(t, fmt.Sprint("any matrix, node ", who), m, who)
		waits := 0
		for msg, g := range m.Messages {
			switch {
			case g.Owner != who:
				x.send(msg, "x", noSuch)
			case !g.Event:
				x.send(msg, fmt.Sprint(msg), 0).state("P18.1", msg, fmt.Sprint(msg))
			case waits < mostQueue:
				x.send(msg, fmt.Sprint(msg), 0)
				waits++
			}
			x.got(msg, fmt.Sprint("came ", msg)).read(msg, fmt.Sprint("came ", msg))
		}
		x.got(len(m.Messages), "no").got(-1, "no")
	}
}

// The matrix that is handed in is neither changed nor kept, its spare room neither.
func TestMatrixIsNotKept(t *testing.T) {
	room := plain().Messages
	m := plain()
	m.Messages = room[:4]
	x := pairOf(t, "a matrix that is changed", m, me)
	x.send(4, "no", noSuch).send(5, "no", noSuch).got(4, "no").noRead(4)
	x.send(0, "s", 0).send(2, "e", 0)
	if !slices.Equal(room, plain().Messages) || m.Masters[0] != 0 || m.Windows[0] != plain().Windows[0] {
		t.Fatal("P18.1: the matrix was changed")
	}
	for i := range room {
		room[i] = api.Message{ID: 9, Owner: me - i%2, Event: i%2 == 0}
	}
	m.Messages = append(m.Messages, api.Message{Owner: me})
	m.Masters[0], m.Windows[0] = 7, api.Window{}
	x.same("its matrix was changed")
	x.send(0, "t", 0).send(1, "no", noSuch).send(2, "f", 0).send(3, "no", noSuch).send(4, "no", noSuch)
	x.copy("a copy, its matrix was changed").send(0, "u", 0).send(4, "no", noSuch)
}

// Objects that were made alike know nothing of one another.
func TestTwo(t *testing.T) {
	m := plain()
	one, two, other := pairOf(t, "one", m, me), pairOf(t, "two", m, me), pairOf(t, "another node's", m, 1)
	one.send(0, "s", 0).send(2, "e", 0).got(1, "g")
	two.same("another one was told")
	other.same("another one was told")
	other.send(1, "x", 0).got(0, "s")
	two.got(1, "h").send(0, "t", 0)
	one.same("others were told")
	pairOf(t, "later", m, me).noState("P18.1", 0)
}

// A copy has all that there was, and goes its own way from there, as does the first one.
func TestCopy(t *testing.T) {
	for n := range mostQueue + 1 {
		x := pairOf(t, fmt.Sprintf("%d wait", n), plain(), me)
		x.send(0, "s", 0).got(1, "g")
		for k := range n {
			x.send([]int{2, 5}[k%2], fmt.Sprint(k), 0)
		}
		y := x.copy(fmt.Sprintf("a copy, %d wait", n))
		y.state("P18.1", 0, "s")
		y.read(1, "g")
		y.send(0, "t", 0).send(4, "new", 0).got(1, "h").got(3, "new")
		x.same("its copy went on").state("P18.1", 0, "s")
		x.noState("P18.1", 4)
		x.read(1, "g")
		x.noRead(3)
		for range mostQueue - n {
			y.send(5, "more", 0)
		}
		y.send(5, "no", full)
		x.same("its copy is full")
		x.sent(2).send(0, "u", 0).send(4, "other", 0).got(1, "i").got(3, "other")
		y.same("its first one went on").state("P18.1", 0, "t")
		y.state("P18.1", 4, "new")
		y.read(3, "new")
		for range mostQueue - len(x.p.events) {
			x.send(2, "room", 0)
		}
		x.send(2, "no", full)
		y.sent(2).sent(5)
		x.same("its copy was sent").waits("P18.1", mostQueue, x.p.events[0])
	}
}

func TestCopyOfACopy(t *testing.T) {
	x := pairOf(t, "the first", plain(), me)
	y := x.copy("its copy").send(0, "y", 0).send(2, "y", 0).got(1, "y")
	z := y.copy("a copy's copy").sent(2).send(0, "z", 0).send(5, "z", 0).got(1, "z")
	y.same("its copy went on").waits("P18.1", 1, of(2, "y"))
	x.same("its copy's copy went on").noState("P18.1", 0)
	y.sent(2).send(0, "w", 0)
	z.same("whose first one went on").state("P18.1", 0, "z")
	z.waits("P18.1", 1, of(5, "z"))
}

// someMatrix: owners, kinds and their number by chance.
func someMatrix(r *rand.Rand) api.Matrix {
	var m api.Matrix
	for range r.Intn(13) {
		m.Messages = append(m.Messages, api.Message{ID: uint32(r.Intn(2048)), Owner: r.Intn(3), Event: r.Intn(2) == 0})
	}
	return m
}

// Whatever the order of calls, and whichever of the copies: each is as its own paper.
func TestAnyOrder(t *testing.T) {
	r := rand.New(rand.NewSource(181))
	for turn := range 100 {
		all := []*pair{pairOf(t, fmt.Sprint("turn ", turn), someMatrix(r), r.Intn(3))}
		for range 100 {
			x := all[r.Intn(len(all))]
			msg, data := r.Intn(len(x.p.messages)+2)-1, strings.Repeat("x", r.Intn(11))
			switch r.Intn(9) {
			case 0, 1, 2, 3:
				x.send(msg, data, x.p.copy().send(msg, data))
			case 4:
				x.sent(msg)
			case 5:
				if len(x.p.events) > 0 {
					x.sent(x.p.events[0].Msg)
				}
			case 6, 7:
				x.got(msg, data)
			default:
				all = append(all, x.copy(x.what+", a copy"))
			}
			all[r.Intn(len(all))].same("others were told")
		}
	}
}

// Looks change nothing, not for other looks at the same time either.
func TestLooksAtOnce(t *testing.T) {
	x := pairOf(t, "looks at once", plain(), me)
	x.send(0, "s", 0).send(5, "e", 0).send(2, "f", 0).got(1, "g")
	var looks sync.WaitGroup
	for range 4 {
		looks.Go(func() {
			for range 500 {
				o := x.o.Copy()
				s, is := x.o.State(0)
				g, came := x.o.Read(1)
				d, waits := x.o.Event()
				o.Sent(5)
				after, _ := o.Event()
				if s != "s" || !is || g != "g" || !came || d != of(5, "e") || !waits || x.o.Waiting() != 2 || after != of(2, "f") {
					t.Error("P18.1: a look that another one changed")
					return
				}
			}
		})
	}
	looks.Wait()
	x.same("behind all looks")
}
