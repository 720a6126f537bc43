package plan

import (
	"fmt"
	"math"
	"math/rand"
	"slices"
	"testing"

	"ostinato/api"
	"ostinato/check"
	"ostinato/matrix"
)

// The limits and numbers of the document, written out.
const (
	mostNodes    = 8
	mostMasters  = 4
	mostMessages = 12
	mostWindows  = 16
	mostEnable   = 16
	mostUnit     = 64
	mostName     = 99 // of masters, owners, a window's message
	tickCount    = 4  // of a bit time
	longest      = 140

	exclusive, arbitrating, free  = 1, 2, 3
	send, arb, get, ref, watching = 1, 2, 3, 4, 5
)

// far: numbers of which sums and differences have no room in an int.
var far = []int{math.MinInt, math.MinInt + 1, -1 << 40, -1 << 32, 1 << 32, 1<<32 + 3, 1 << 40, math.MaxInt - 1, math.MaxInt}

const plainStep = 38 // of plain: 35 units and 1 of a frame, 2 of Enable

// plain: an ordinary matrix with three kinds of windows.
func plain() api.Matrix {
	return api.Matrix{
		Level: 2, Nodes: 4, Cycles: 4, Length: 300, Enable: 2, Unit: 16, Init: 100, Ref: 80,
		Masters:  []int{2, 0},
		Messages: []api.Message{{ID: 300, Owner: 1}, {ID: 40, Owner: 3, Event: true}, {ID: 41, Owner: 0}},
		Windows: []api.Window{
			{Kind: exclusive, Start: 40, End: 80, Repeat: 1},
			{Kind: arbitrating, Start: 80, End: 150, Cycle: 1, Repeat: 2},
			{Kind: exclusive, Start: 90, End: 130, Repeat: 2, Msg: 2},
			{Kind: free, Start: 200, End: 203, Cycle: 3, Repeat: 4},
		},
	}
}

const fullStep = 12 // of full: 9 units and 1 of a frame, 2 of Enable

// full: every list as long as may be, and nothing wrong.
func full() api.Matrix {
	m := api.Matrix{Level: 1, Nodes: mostNodes, Cycles: 8, Length: 400, Enable: 2, Unit: 64, Init: 7, Ref: 1000, Masters: []int{7, 3, 0, 5}}
	for i := range mostMessages {
		m.Messages = append(m.Messages, api.Message{ID: uint32(1020 - i), Owner: i % mostNodes, Event: i%3 == 1})
	}
	for i := range mostWindows {
		m.Windows = append(m.Windows, api.Window{Kind: i%3 + 1, Start: 13 + 20*i, End: 27 + 20*i, Repeat: 1})
	}
	m.Windows[3].Msg, m.Windows[6].Msg, m.Windows[9].Msg = 11, 2, 3
	return m
}

// all tells all of a matrix; of two it is the same if and only if they are alike in all.
func all(m api.Matrix) string {
	return fmt.Sprint(m.Level, m.Nodes, m.Cycles, m.Length, m.Enable, m.Unit, m.Init, m.Ref, "|", m.Masters, "|", m.Messages, "|", m.Windows)
}

// behind tells a matrix with all that stands in its spare room.
func behind(m api.Matrix) string {
	m.Masters = m.Masters[:cap(m.Masters)]
	m.Messages = m.Messages[:cap(m.Messages)]
	m.Windows = m.Windows[:cap(m.Windows)]
	return all(m)
}

// modelStep counts: units are laid until all ticks of a frame have room, one more, and Enable.
func modelStep(unit, enable int) int {
	n := 1 + enable
	for left := longest * tickCount; left > 0; left -= unit {
		n++
	}
	return n
}

func passes(m api.Matrix) bool {
	_, e := check.Check(m)
	return e == api.OK
}

// modelPlan lays triggers on their units, in the order that the document tells them, and then goes from unit to unit.
func modelPlan(m api.Matrix, who int) []api.Trigger {
	if !passes(m) {
		return nil
	}
	step := modelStep(m.Unit, m.Enable)
	units := make([][]api.Trigger, m.Length+(mostMasters+2)*step+1)
	lay := func(t api.Trigger) { units[t.At] = append(units[t.At], t) }
	for _, w := range m.Windows {
		mine := w.Kind == exclusive && m.Messages[w.Msg].Owner == who
		if mine {
			lay(api.Trigger{Kind: send, At: w.Start, Cycle: w.Cycle, Repeat: w.Repeat, Msg: w.Msg, Until: w.Start + m.Enable})
		}
		if w.Kind == exclusive && !mine {
			lay(api.Trigger{Kind: get, At: w.End - 1, Cycle: w.Cycle, Repeat: w.Repeat, Msg: w.Msg})
		}
		if w.Kind == arbitrating {
			lay(api.Trigger{Kind: arb, At: w.Start, Cycle: w.Cycle, Repeat: w.Repeat, Until: w.End - step})
		}
	}
	for rank, one := range m.Masters {
		if one == who {
			lay(api.Trigger{Kind: ref, At: m.Length, Repeat: 1})
			lay(api.Trigger{Kind: ref, At: m.Length + (rank+1)*step, Repeat: 1, Msg: 1})
		}
	}
	lay(api.Trigger{Kind: watching, At: m.Length + (len(m.Masters)+2)*step, Repeat: 1})
	return slices.Concat(units...)
}

func planIs(t *testing.T, what string, m api.Matrix, who int, want []api.Trigger) {
	t.Helper()
	was := behind(m)
	for range 2 {
		if got := Plan(m, who); !slices.Equal(got, want) {
			t.Errorf("P15.1: %s: Plan of node %d: %v, want %v, of %s", what, who, got, want, all(m))
		}
	}
	if model := modelPlan(m, who); !slices.Equal(model, want) {
		t.Errorf("%s: the model of node %d: %v, want %v", what, who, model, want)
	}
	if behind(m) != was {
		t.Errorf("P15.1: %s: it was changed", what)
	}
}

func beatIs(t *testing.T, what string, m api.Matrix, rank, want int) {
	t.Helper()
	was := behind(m)
	if got := Beat(m, rank); got != want {
		t.Errorf("P15.1: %s: Beat of rank %d: %d, want %d", what, rank, got, want)
	}
	if behind(m) != was {
		t.Errorf("P15.1: %s: it was changed", what)
	}
}

func watchIs(t *testing.T, what string, m api.Matrix, want int) {
	t.Helper()
	was := behind(m)
	if got := Watch(m); got != want {
		t.Errorf("P15.1: %s: Watch: %d, want %d", what, got, want)
	}
	if behind(m) != was {
		t.Errorf("P15.1: %s: it was changed", what)
	}
}

// nodes: all that there are, and numbers of none.
func nodes() []int {
	out := append([]int{-2, -1, mostNodes, mostNodes + 1, mostName, mostName + 1}, far...)
	for who := range mostNodes {
		out = append(out, who)
	}
	return out
}

func TestBeat(t *testing.T) {
	for _, c := range []struct{ rank, want int }{
		{0, 338}, {1, 376}, {2, 414}, {3, 452}, {4, 490}, {98, 4062}, {99, 4100}, // as many masters as there are or not
		{-1, 300}, {-2, 300}, {-99, 300}, {-100, 300}, {100, 300}, {101, 300}, {1000, 300},
	} {
		beatIs(t, "an ordinary one", plain(), c.rank, c.want)
	}
	for _, rank := range far {
		beatIs(t, "far", plain(), rank, 300)
		beatIs(t, "far", full(), rank, 400)
	}
	for rank := range 100 {
		beatIs(t, "an ordinary one", plain(), rank, 300+plainStep*(rank+1))
		beatIs(t, "a full one", full(), rank, 400+fullStep*(rank+1))
	}
}

func TestBeatSteps(t *testing.T) {
	m := plain()
	m.Windows = nil
	for m.Unit = 1; m.Unit <= mostUnit; m.Unit++ {
		for m.Enable = 1; m.Enable <= mostEnable; m.Enable++ {
			step := modelStep(m.Unit, m.Enable)
			for _, m.Length = range []int{1, step, 4000} {
				what := fmt.Sprintf("Unit %d, Enable %d, Length %d", m.Unit, m.Enable, m.Length)
				beatIs(t, what, m, -1, m.Length)
				beatIs(t, what, m, 0, m.Length+step)
				beatIs(t, what, m, 3, m.Length+4*step)
				beatIs(t, what, m, 99, m.Length+100*step)
				beatIs(t, what, m, 100, m.Length)
				watchIs(t, what, m, m.Length+4*step)
			}
		}
	}
	m.Unit, m.Enable, m.Length = 1, 16, 4000
	beatIs(t, "the latest", m, 99, 4000+57700)
	m.Unit, m.Enable, m.Length = 64, 1, 1
	beatIs(t, "the earliest", m, 0, 12)
}

func TestWatch(t *testing.T) {
	for count := range mostMasters + 3 {
		one, other := plain(), full()
		one.Masters = []int{3, 2, 1, 0, 0, 0, 0}[:count]
		other.Masters = one.Masters
		if count == 0 || count > mostMasters {
			watchIs(t, fmt.Sprint(count, " masters"), one, 0)
			watchIs(t, fmt.Sprint(count, " masters"), other, 0)
			continue
		}
		watchIs(t, fmt.Sprint(count, " masters"), one, 300+plainStep*(count+2))
		watchIs(t, fmt.Sprint(count, " masters"), other, 400+fullStep*(count+2))
	}
	m := plain()
	m.Masters = []int{0}
	watchIs(t, "one master", m, 414)
	m.Masters = []int{0, 1, 2, 3}
	watchIs(t, "four masters", m, 528)
}

// TestRefusedHaveTimes: what layer 12 takes has a Beat and a Watch, whether Check tells it OK or not.
func TestRefusedHaveTimes(t *testing.T) {
	for what, m := range refused() {
		if !matrix.Is(m) {
			continue
		}
		step := modelStep(m.Unit, m.Enable)
		beatIs(t, what, m, 1, m.Length+2*step)
		beatIs(t, what, m, -1, m.Length)
		watchIs(t, what, m, m.Length+(len(m.Masters)+2)*step)
	}
}

// refused: each is refused by something else, some of them by layer 12 already.
func refused() map[string]api.Matrix {
	out := map[string]api.Matrix{"nothing": {}, "a Length alone": {Length: 5}}
	set := func(name string, change func(m *api.Matrix)) {
		m := plain()
		change(&m)
		out[name] = m
	}
	for _, n := range append([]int{-1, 0, mostName * 100}, far...) {
		set(fmt.Sprint("Level ", n), func(m *api.Matrix) { m.Level = n })
		set(fmt.Sprint("Nodes ", n), func(m *api.Matrix) { m.Nodes = n })
		set(fmt.Sprint("Cycles ", n), func(m *api.Matrix) { m.Cycles = n })
		set(fmt.Sprint("Length ", n), func(m *api.Matrix) { m.Length = n })
		set(fmt.Sprint("Enable ", n), func(m *api.Matrix) { m.Enable = n })
		set(fmt.Sprint("Unit ", n), func(m *api.Matrix) { m.Unit = n })
		set(fmt.Sprint("Kind ", n), func(m *api.Matrix) { m.Windows[1].Kind = n })
		set(fmt.Sprint("Repeat ", n), func(m *api.Matrix) { m.Windows[1].Repeat = n })
		set(fmt.Sprint("End ", n), func(m *api.Matrix) { m.Windows[1].End = n })
	}
	for _, n := range append([]int{-1, mostName * 100}, far...) {
		set(fmt.Sprint("Init ", n), func(m *api.Matrix) { m.Init = n })
		set(fmt.Sprint("master ", n), func(m *api.Matrix) { m.Masters[1] = n })
		set(fmt.Sprint("Owner ", n), func(m *api.Matrix) { m.Messages[2].Owner = n })
		set(fmt.Sprint("Start ", n), func(m *api.Matrix) { m.Windows[1].Start = n })
		set(fmt.Sprint("Cycle ", n), func(m *api.Matrix) { m.Windows[1].Cycle = n })
		set(fmt.Sprint("Msg ", n), func(m *api.Matrix) { m.Windows[0].Msg = n })
	}
	set("Ref 81", func(m *api.Matrix) { m.Ref++ })
	set("no masters", func(m *api.Matrix) { m.Masters = nil })
	set("five masters", func(m *api.Matrix) { m.Masters = []int{0, 1, 2, 3, 4} })
	set("too many windows", func(m *api.Matrix) { m.Windows = make([]api.Window, mostWindows+1) })
	set("too short", func(m *api.Matrix) { m.Length, m.Windows = plainStep-1, nil })
	set("a master that is no node", func(m *api.Matrix) { m.Masters[1] = 4 })
	set("an owner that is no node", func(m *api.Matrix) { m.Messages[2].Owner = 4 })
	set("a master twice", func(m *api.Matrix) { m.Masters[1] = 2 })
	set("an ID twice", func(m *api.Matrix) { m.Messages[2].ID = 40 })
	set("a beat's ID", func(m *api.Matrix) { m.Messages[2].ID = 87 })
	set("no such message", func(m *api.Matrix) { m.Windows[2].Msg = 3 })
	set("the last number of a message", func(m *api.Matrix) { m.Windows[2].Msg = mostName })
	set("an event's window", func(m *api.Matrix) { m.Windows[2].Msg = 1 })
	set("too early", func(m *api.Matrix) { m.Windows[0].Start = plainStep - 1 })
	set("no room", func(m *api.Matrix) { m.Windows[2].End = m.Windows[2].Start + plainStep - 1 })
	set("upon one another", func(m *api.Matrix) { m.Windows[2].Cycle = 1 })
	return out
}

func TestRefused(t *testing.T) {
	for what, m := range refused() {
		if passes(m) {
			t.Fatalf("%s: it passes", what)
		}
		for _, who := range nodes() {
			planIs(t, what, m, who, nil)
		}
		if matrix.Is(m) {
			continue
		}
		watchIs(t, what, m, 0)
		for _, rank := range append([]int{-1, 0, 1, 99, 100}, far...) {
			beatIs(t, what, m, rank, 0)
		}
	}
}

// The triggers of plain.
var (
	send0  = api.Trigger{Kind: send, At: 40, Repeat: 1, Until: 42}
	get0   = api.Trigger{Kind: get, At: 79, Repeat: 1}
	arb1   = api.Trigger{Kind: arb, At: 80, Cycle: 1, Repeat: 2, Until: 112}
	send2  = api.Trigger{Kind: send, At: 90, Repeat: 2, Msg: 2, Until: 92}
	get2   = api.Trigger{Kind: get, At: 129, Repeat: 2, Msg: 2}
	ends   = api.Trigger{Kind: ref, At: 300, Repeat: 1}
	watch4 = api.Trigger{Kind: watching, At: 452, Repeat: 1}
)

func stepsIn(at int) api.Trigger { return api.Trigger{Kind: ref, At: at, Repeat: 1, Msg: 1} }

// plans: by their numbers the plans of the nodes of plain; all others have that of node 3.
func plans(who int) []api.Trigger {
	switch who {
	case 0:
		return []api.Trigger{get0, arb1, send2, ends, stepsIn(376), watch4}
	case 1:
		return []api.Trigger{send0, arb1, get2, watch4}
	case 2:
		return []api.Trigger{get0, arb1, get2, ends, stepsIn(338), watch4}
	}
	return []api.Trigger{get0, arb1, get2, watch4}
}

func TestPlanWritten(t *testing.T) {
	for _, who := range nodes() {
		planIs(t, "an ordinary one", plain(), who, plans(who))
	}
}

// orders: a list in every order.
func orders[T any](list []T) [][]T {
	if len(list) == 0 {
		return [][]T{nil}
	}
	var out [][]T
	for at, first := range list {
		rest := slices.Delete(slices.Clone(list), at, at+1)
		for _, more := range orders(rest) {
			out = append(out, append([]T{first}, more...))
		}
	}
	return out
}

// TestPlanSorted: no two of plain have the same At, so that its windows may stand as they like.
func TestPlanSorted(t *testing.T) {
	for _, windows := range orders(plain().Windows) {
		m := plain()
		m.Windows = windows
		for _, who := range nodes() {
			planIs(t, "windows in another order", m, who, plans(who))
		}
	}
}

// TestPlanSameAt: windows in unlike cycles, with triggers of the same At: in the windows' order.
func TestPlanSameAt(t *testing.T) {
	windows := []api.Window{
		{Kind: arbitrating, Start: 100, End: 140, Cycle: 0, Repeat: 8},
		{Kind: exclusive, Start: 100, End: 150, Cycle: 1, Repeat: 8, Msg: 2},
		{Kind: exclusive, Start: 61, End: 101, Cycle: 2, Repeat: 8},
		{Kind: exclusive, Start: 60, End: 101, Cycle: 3, Repeat: 8},
		{Kind: arbitrating, Start: 100, End: 141, Cycle: 4, Repeat: 8},
		{Kind: free, Start: 100, End: 101, Cycle: 5, Repeat: 8},
	}
	laid := map[int]api.Trigger{
		0: {Kind: arb, At: 100, Cycle: 0, Repeat: 8, Until: 102},
		1: {Kind: send, At: 100, Cycle: 1, Repeat: 8, Msg: 2, Until: 102},
		2: {Kind: get, At: 100, Cycle: 2, Repeat: 8},
		3: {Kind: get, At: 100, Cycle: 3, Repeat: 8},
		4: {Kind: arb, At: 100, Cycle: 4, Repeat: 8, Until: 103},
	}
	for _, order := range orders(windows) {
		m := plain()
		m.Cycles, m.Windows = 8, order
		var want []api.Trigger
		for _, w := range order {
			if w.Kind != free {
				want = append(want, laid[w.Cycle])
			}
		}
		planIs(t, "all at one unit", m, 0, append(want, ends, stepsIn(376), watch4))
	}
}

// TestPlanSameAtAmong: of the same At in order, with others ahead and behind.
func TestPlanSameAtAmong(t *testing.T) {
	windows := []api.Window{
		{Kind: arbitrating, Start: 200, End: 240, Repeat: 1},
		{Kind: arbitrating, Start: 100, End: 150, Cycle: 1, Repeat: 2},
		{Kind: exclusive, Start: 60, End: 101, Cycle: 0, Repeat: 2},
		{Kind: exclusive, Start: 245, End: 300, Repeat: 1, Msg: 2},
		{Kind: arbitrating, Start: 40, End: 80, Cycle: 1, Repeat: 2},
	}
	for _, order := range orders(windows) {
		m := plain()
		m.Windows = order
		two := []api.Trigger{{Kind: arb, At: 100, Cycle: 1, Repeat: 2, Until: 112}, {Kind: get, At: 100, Repeat: 2}}
		if slices.Index(order, windows[1]) > slices.Index(order, windows[2]) {
			slices.Reverse(two)
		}
		want := []api.Trigger{{Kind: arb, At: 40, Cycle: 1, Repeat: 2, Until: 42}}
		want = append(want, two...)
		want = append(want, api.Trigger{Kind: arb, At: 200, Repeat: 1, Until: 202}, api.Trigger{Kind: get, At: 299, Repeat: 1, Msg: 2})
		planIs(t, "two at one unit", m, 2, append(want, ends, stepsIn(338), watch4))
	}
}

func TestPlanNoWindows(t *testing.T) {
	m := plain()
	for _, m.Windows = range [][]api.Window{nil, {}, m.Windows[3:]} {
		for _, m.Messages = range [][]api.Message{nil, {}, plain().Messages} {
			planIs(t, "no windows", m, 2, []api.Trigger{ends, stepsIn(338), watch4})
			planIs(t, "no windows", m, 0, []api.Trigger{ends, stepsIn(376), watch4})
			for _, who := range nodes() {
				if who != 2 && who != 0 {
					planIs(t, "no windows, no master", m, who, []api.Trigger{watch4})
				}
			}
		}
	}
	bare := api.Matrix{Level: 1, Nodes: 1, Cycles: 1, Length: 11, Enable: 1, Unit: 64, Masters: []int{0}}
	planIs(t, "the least", bare, 0, []api.Trigger{{Kind: ref, At: 11, Repeat: 1}, stepsIn(22), {Kind: watching, At: 44, Repeat: 1}})
}

// TestPlanMasters: every node in every rank, of every number of masters.
func TestPlanMasters(t *testing.T) {
	for _, order := range orders([]int{1, 3, 4, 7}) {
		for count := 1; count <= mostMasters; count++ {
			m := full()
			m.Masters, m.Windows = order[:count], nil
			end := api.Trigger{Kind: watching, At: 400 + fullStep*(count+2), Repeat: 1}
			for _, who := range nodes() {
				want := []api.Trigger{end}
				if rank := slices.Index(m.Masters, who); rank >= 0 {
					want = []api.Trigger{{Kind: ref, At: 400, Repeat: 1}, stepsIn(400 + fullStep*(rank+1)), end}
				}
				planIs(t, fmt.Sprint("masters ", m.Masters), m, who, want)
			}
		}
	}
}

// TestPlanUntil: of every Unit and Enable; a window that has room and no more is over for events as it begins.
func TestPlanUntil(t *testing.T) {
	m := plain()
	m.Length = 4000
	for m.Unit = 1; m.Unit <= mostUnit; m.Unit++ {
		for m.Enable = 1; m.Enable <= mostEnable; m.Enable++ {
			step := modelStep(m.Unit, m.Enable)
			for _, more := range []int{0, 1, 7, 700} {
				first, second := 2*step, 4*step
				m.Windows = []api.Window{
					{Kind: arbitrating, Start: second, End: second + step + more, Repeat: 1},
					{Kind: exclusive, Start: first, End: first + step, Cycle: 1, Repeat: 4, Msg: 2},
				}
				what := fmt.Sprintf("Unit %d, Enable %d, %d more", m.Unit, m.Enable, more)
				events := api.Trigger{Kind: arb, At: second, Repeat: 1, Until: second + more}
				end := api.Trigger{Kind: watching, At: 4000 + 4*step, Repeat: 1}
				planIs(t, what, m, 3, []api.Trigger{{Kind: get, At: first + step - 1, Cycle: 1, Repeat: 4, Msg: 2}, events, end})
				m.Masters[1] = 1
				planIs(t, what, m, 0, []api.Trigger{{Kind: send, At: first, Cycle: 1, Repeat: 4, Msg: 2, Until: first + m.Enable}, events, end})
				m.Masters[1] = 0
			}
		}
	}
}

// TestPlanWindowsTold: every Cycle, Repeat and message of a window comes with its trigger.
func TestPlanWindowsTold(t *testing.T) {
	for repeat := 1; repeat <= 8; repeat *= 2 {
		for cycle := range repeat {
			for msg := range mostMessages {
				m := full()
				for i := range m.Messages {
					m.Messages[i].Event = false
				}
				m.Masters = []int{6}
				m.Windows = []api.Window{{Kind: exclusive, Start: 30, End: 90, Cycle: cycle, Repeat: repeat, Msg: msg}, {Kind: arbitrating, Start: 100, End: 150, Cycle: cycle, Repeat: repeat}}
				events := api.Trigger{Kind: arb, At: 100, Cycle: cycle, Repeat: repeat, Until: 138}
				end := api.Trigger{Kind: watching, At: 436, Repeat: 1}
				for _, who := range nodes() {
					one := api.Trigger{Kind: get, At: 89, Cycle: cycle, Repeat: repeat, Msg: msg}
					if who == msg%mostNodes {
						one = api.Trigger{Kind: send, At: 30, Cycle: cycle, Repeat: repeat, Msg: msg, Until: 32}
					}
					want := []api.Trigger{one, events, end}
					if who == 6 {
						want = []api.Trigger{one, events, {Kind: ref, At: 400, Repeat: 1}, stepsIn(412), end}
					}
					planIs(t, fmt.Sprintf("message %d, %d by %d", msg, cycle, repeat), m, who, want)
				}
			}
		}
	}
}

func TestPlanFull(t *testing.T) {
	for _, who := range nodes() {
		planIs(t, "a full one", full(), who, modelPlan(full(), who))
	}
	if got := len(Plan(full(), 3)); got != 11+3 {
		t.Errorf("P15.1: of 16 windows, 5 of them free, and a master: %d", got)
	}
}

func pick(random *rand.Rand, from ...int) int { return from[random.Intn(len(from))] }

// anyMatrix: all of them pass; windows are laid as long as they fit, in any order, some upon one another in unlike cycles.
func anyMatrix(random *rand.Rand) api.Matrix {
	m := api.Matrix{
		Level: 1 + random.Intn(2), Nodes: 1 + random.Intn(mostNodes), Cycles: pick(random, 1, 2, 4, 8), Length: 80 + random.Intn(200),
		Enable: 1 + random.Intn(3), Unit: pick(random, 16, 33, 47, 64), Ref: uint32(8 * random.Intn(200)),
	}
	m.Masters = random.Perm(m.Nodes)[:1+random.Intn(min(m.Nodes, mostMasters))]
	for i := range random.Intn(mostMessages + 1) {
		m.Messages = append(m.Messages, api.Message{ID: uint32(1700 + i), Owner: random.Intn(m.Nodes), Event: random.Intn(4) == 0})
	}
	step := modelStep(m.Unit, m.Enable)
	for range 40 {
		start := step + 5*random.Intn(m.Length/5)
		w := api.Window{Kind: 1 + random.Intn(3), Start: start, End: start + step + pick(random, 0, 1, 6, 11), Repeat: min(m.Cycles, pick(random, 1, 2, 4, 8))}
		w.Cycle = random.Intn(w.Repeat)
		if w.Kind == exclusive {
			w.Msg = random.Intn(len(m.Messages) + 1)
		}
		more := m
		more.Windows = append(slices.Clone(m.Windows), w)
		if passes(more) {
			m = more
		}
	}
	return m
}

func TestPlanAny(t *testing.T) {
	random := rand.New(rand.NewSource(15))
	kinds, alike := map[int]int{}, 0
	for range 2000 {
		m := anyMatrix(random)
		for who := -1; who <= m.Nodes; who++ {
			want := modelPlan(m, who)
			planIs(t, "any", m, who, want)
			for at, one := range want {
				kinds[one.Kind]++
				if at > 0 && want[at-1].At == one.At {
					alike++
				}
			}
		}
	}
	for _, kind := range []int{send, arb, get, ref, watching} {
		if kinds[kind] < 1000 {
			t.Errorf("of kind %d there are but %d", kind, kinds[kind])
		}
	}
	if alike < 1000 {
		t.Errorf("of the same At there are but %d", alike)
	}
}

// TestPlanSpareRoom: what lies behind the lists is neither read nor changed.
func TestPlanSpareRoom(t *testing.T) {
	m := plain()
	m.Masters = append(m.Masters, 1, 3)[:2]
	m.Messages = append(m.Messages, api.Message{ID: 1, Owner: 1})[:3]
	m.Windows = append(m.Windows, api.Window{Kind: arbitrating, Start: 210, End: 290, Repeat: 1})[:4]
	for _, who := range nodes() {
		planIs(t, "spare room", m, who, plans(who))
	}
	watchIs(t, "spare room", m, 452)
	beatIs(t, "spare room", m, 1, 376)
}

// spoil changes all of an answer, its spare room too.
func spoil(l []api.Trigger) {
	l = l[:cap(l)]
	for i := range l {
		l[i] = api.Trigger{Kind: -7, At: -7, Cycle: -7, Repeat: -7, Msg: -7, Until: -7}
	}
}

// TestPlanApart: whatever is done with a plan, no other one is touched, nor the matrix.
func TestPlanApart(t *testing.T) {
	m := plain()
	for who := range 4 {
		was := behind(m)
		one, other := Plan(m, who), Plan(m, who)
		spoil(one)
		if !slices.Equal(other, plans(who)) || behind(m) != was {
			t.Errorf("P15.1: what is done with a plan of node %d is to be seen elsewhere", who)
		}
		planIs(t, "again", m, who, plans(who))
		m.Windows[0].Start, m.Masters[0], m.Messages[0].Owner = 39, 3, 3
		if !slices.Equal(other, plans(who)) {
			t.Errorf("P15.1: what is done with the matrix is to be seen in a plan of node %d", who)
		}
		m = plain()
	}
}

func dueIs(t *testing.T, what string, l []api.Trigger, cycle, from, to int, want []api.Trigger) {
	t.Helper()
	was := slices.Clone(l[:cap(l)])
	for range 2 {
		if got := Due(l, cycle, from, to); !slices.Equal(got, want) {
			t.Errorf("P15.2: %s: Due in cycle %d from %d to %d: %v, want %v", what, cycle, from, to, got, want)
		}
	}
	if !slices.Equal(l[:cap(l)], was) {
		t.Errorf("P15.2: %s: what was handed in was changed", what)
	}
}

func TestDueNone(t *testing.T) {
	for _, n := range append([]int{-1, 0, 1, 300}, far...) {
		dueIs(t, "nil", nil, 0, n, math.MaxInt, nil)
		dueIs(t, "empty", []api.Trigger{}, 0, n, math.MaxInt, nil)
		dueIs(t, "nil", nil, n, math.MinInt, n, nil)
		dueIs(t, "room behind an empty list", plans(0)[:0], n, math.MinInt, math.MaxInt, nil)
		dueIs(t, "from and to alike", plans(0), 0, n, n, nil)
	}
}

func TestDueUnits(t *testing.T) {
	l := plans(0) // in cycle 0: 79, 90, 300, 376, 452
	for _, c := range []struct {
		from, to int
		want     []api.Trigger
	}{
		{78, 79, []api.Trigger{get0}}, {79, 79, nil}, {79, 80, nil}, {78, 78, nil}, {77, 78, nil}, {77, 80, []api.Trigger{get0}}, {78, 80, []api.Trigger{get0}},
		{79, 90, []api.Trigger{send2}}, {79, 89, nil}, {89, 90, []api.Trigger{send2}}, {89, 91, []api.Trigger{send2}}, {90, 91, nil}, {90, 299, nil}, {90, 300, []api.Trigger{ends}},
		{78, 90, []api.Trigger{get0, send2}}, {78, 89, []api.Trigger{get0}}, {79, 300, []api.Trigger{send2, ends}},
		{0, 452, []api.Trigger{get0, send2, ends, stepsIn(376), watch4}}, {0, 451, []api.Trigger{get0, send2, ends, stepsIn(376)}}, {300, 452, []api.Trigger{stepsIn(376), watch4}}, {451, 452, []api.Trigger{watch4}}, {452, 453, nil}, {452, math.MaxInt, nil},
		{math.MinInt, math.MaxInt, []api.Trigger{get0, send2, ends, stepsIn(376), watch4}}, {-1, 0, nil}, {math.MinInt, 78, nil}, {math.MinInt, 79, []api.Trigger{get0}}, {math.MinInt, -1, nil},
		{80, 79, nil}, {79, 78, nil}, {452, 79, nil}, {500, 0, nil}, {0, -1, nil}, {math.MaxInt, math.MinInt, nil}, {math.MaxInt, 452, nil}, {79, math.MinInt, nil},
	} {
		dueIs(t, "node 0 of an ordinary one", l, 0, c.from, c.to, c.want)
	}
}

// TestDueEdges: a trigger alone, at every unit, the ends of all numbers too.
func TestDueEdges(t *testing.T) {
	numbers := append([]int{-2, -1, 0, 1, 2, 3, 299, 300, 301}, far...)
	for _, at := range numbers {
		l := []api.Trigger{{Kind: send, At: at, Repeat: 1, Msg: 3, Until: 9}}
		for _, from := range numbers {
			for _, to := range numbers {
				want := l
				if at <= from || at > to {
					want = nil
				}
				dueIs(t, "one", l, 0, from, to, want)
			}
		}
	}
}

func TestDueCycles(t *testing.T) {
	for cycle := -3; cycle < 20; cycle++ {
		var want []api.Trigger
		if cycle >= 0 {
			want = []api.Trigger{get0, send2, ends, stepsIn(376), watch4}
		}
		if cycle >= 0 && cycle%2 == 1 {
			want[1] = arb1
		}
		dueIs(t, "node 0 of an ordinary one", plans(0), cycle, -1, 5000, want)
	}
	dueIs(t, "far behind", plans(0), math.MaxInt, 79, 299, []api.Trigger{arb1})
	dueIs(t, "far behind", plans(0), math.MaxInt-1, 79, 299, []api.Trigger{send2})
	for _, cycle := range []int{-1, -2, -4, -8, -1 << 32, math.MinInt, math.MinInt + 1} {
		dueIs(t, "below 0", plans(0), cycle, math.MinInt, math.MaxInt, nil)
	}
}

// TestDueComes: triggers of any Cycle and Repeat come when layer 12 says so, those of a Repeat below 1 or a Cycle below 0 never.
func TestDueComes(t *testing.T) {
	numbers := append([]int{-8, -2, -1, 0, 1, 2, 3, 7, 8, 9}, far...)
	for _, cycle := range numbers {
		for _, repeat := range numbers {
			one := api.Trigger{Kind: get, At: 5, Cycle: cycle, Repeat: repeat, Msg: 4}
			for _, now := range numbers {
				var want []api.Trigger
				if cycle >= 0 && repeat >= 1 && now >= cycle && (now-cycle)%repeat == 0 {
					want = []api.Trigger{one}
				}
				dueIs(t, "one", []api.Trigger{one}, now, 4, 5, want)
			}
		}
	}
}

// TestDueKept: in the order of those handed in, sorted or not, twice if they are there twice, with all that they have.
func TestDueKept(t *testing.T) {
	list := []api.Trigger{
		{Kind: -4, At: 30, Cycle: 1, Repeat: 2, Msg: -9, Until: math.MinInt},
		{Kind: 77, At: 10, Repeat: 1, Msg: math.MaxInt, Until: -1},
		{At: 20, Repeat: 3},
		{Kind: send, At: 10, Cycle: 3, Repeat: 100, Msg: 8, Until: 4},
	}
	for _, l := range orders(list) {
		dueIs(t, "all of them", l, 3, 9, 30, l)
		l = append(l, l...)
		dueIs(t, "each twice", l, 3, 9, 30, l)
		var want []api.Trigger
		for _, one := range l {
			if one.At == 10 || one.At == 20 {
				want = append(want, one)
			}
		}
		dueIs(t, "each twice, some of them", l, 3, 9, 29, want)
	}
}

func TestDueAny(t *testing.T) {
	random := rand.New(rand.NewSource(152))
	for range 20000 {
		l := make([]api.Trigger, random.Intn(30), 40)
		for i := range l[:cap(l)] {
			l[:cap(l)][i] = api.Trigger{Kind: random.Intn(7), At: random.Intn(12), Cycle: random.Intn(5) - 1, Repeat: random.Intn(5) - 1, Msg: random.Intn(3), Until: random.Intn(3)}
		}
		cycle, from, to := random.Intn(12)-1, random.Intn(14)-2, random.Intn(14)-1
		var want []api.Trigger
		for _, one := range l {
			comes := false
			for now := one.Cycle; one.Cycle >= 0 && one.Repeat > 0 && now <= cycle; now += one.Repeat {
				comes = comes || now == cycle
			}
			if comes && from < one.At && one.At <= to {
				want = append(want, one)
			}
		}
		dueIs(t, "any", l, cycle, from, to, want)
	}
}

// TestDueApart: an answer shares no memory with what was handed in, nor with another answer, also where it is all of it.
func TestDueApart(t *testing.T) {
	l := append(make([]api.Trigger, 0, 20), plans(3)...)
	whole := slices.Clone(l[:cap(l)])
	for _, to := range []int{0, 79, 200, 5000} {
		one, other := Due(l, 0, -1, to), Due(l, 0, -1, to)
		want := slices.Clone(other)
		spoil(one)
		one = append(one, watch4)
		if !slices.Equal(l[:cap(l)], whole) || !slices.Equal(other, want) {
			t.Errorf("P15.2: to %d: what is done with an answer is to be seen elsewhere", to)
		}
		spoil(l)
		if !slices.Equal(other, want) || len(one) != len(want)+1 {
			t.Errorf("P15.2: to %d: what is done with those handed in is to be seen in an answer", to)
		}
		copy(l[:cap(l)], whole)
	}
}

// TestToldOnce: a plan that was told once holds for all cycles: whatever pieces a cycle comes in, each of its triggers is due in one of them.
func TestToldOnce(t *testing.T) {
	random := rand.New(rand.NewSource(153))
	for range 500 {
		m := anyMatrix(random)
		who := random.Intn(m.Nodes)
		l := Plan(m, who)
		for _, cycle := range []int{0, 1, 2, 3, 4, 5, 6, 7, 8, 1000, 1 << 40, math.MaxInt} {
			var want, got []api.Trigger
			for _, one := range l {
				if cycle%one.Repeat == one.Cycle {
					want = append(want, one)
				}
			}
			for at := -1; at < Watch(m); {
				next := at + 1 + random.Intn(60)
				got = append(got, Due(l, cycle, at, next)...)
				at = next
			}
			if !slices.Equal(got, want) {
				t.Fatalf("P15.3: node %d, cycle %d: by pieces %v, want %v, of %s", who, cycle, got, want, all(m))
			}
		}
		if !slices.Equal(l, Plan(matrix.Copy(m), who)) {
			t.Fatalf("P15.3: node %d is told something else again: %s", who, all(m))
		}
	}
}

// count: how many triggers of that kind and At, for that message, are due in a cycle.
func count(l []api.Trigger, cycle, kind, at, msg int) int {
	n := 0
	for _, one := range Due(l, cycle, at-1, at) {
		if one.Kind == kind && one.Msg == msg {
			n++
		}
	}
	return n
}

// agreeIs: in a window's cycles its owner sends and all others look for it, or all may send events; in other cycles nobody does, but for another window.
func agreeIs(t *testing.T, m api.Matrix, told [][]api.Trigger, cycle int, w api.Window) {
	t.Helper()
	for who, l := range told {
		ok := true
		switch {
		case w.Kind == arbitrating:
			ok = count(l, cycle, arb, w.Start, 0) == 1
		case w.Kind == exclusive && m.Messages[w.Msg].Owner == who:
			ok = count(l, cycle, send, w.Start, w.Msg) == 1 && count(l, cycle, get, w.End-1, w.Msg) == 0
		case w.Kind == exclusive:
			ok = count(l, cycle, get, w.End-1, w.Msg) == 1 && count(l, cycle, send, w.Start, w.Msg) == 0
		}
		if !ok {
			t.Errorf("P15.3: node %d doesn't know about %v in cycle %d of %s", who, w, cycle, all(m))
		}
	}
}

// beatsIs: masters step in for one another in their ranks, no two at once, and nobody takes the beat for missing ahead of the last of them.
func beatsIs(t *testing.T, m api.Matrix, told [][]api.Trigger) {
	t.Helper()
	at := m.Length
	for _, who := range m.Masters {
		at += check.Step(m)
		if count(told[who], 0, ref, m.Length, 0) != 1 || count(told[who], 0, ref, at, 1) != 1 {
			t.Errorf("P15.3: master %d doesn't know when it beats, of %s", who, all(m))
		}
	}
	at += 2 * check.Step(m)
	for who, l := range told {
		if count(l, 0, watching, at, 0) != 1 {
			t.Errorf("P15.3: node %d doesn't know how long to wait, of %s", who, all(m))
		}
	}
}

// TestAllKnow: the plans of all nodes together are the matrix: each window in its cycles, by everybody, and nothing beside.
func TestAllKnow(t *testing.T) {
	random := rand.New(rand.NewSource(154))
	for range 300 {
		m := anyMatrix(random)
		told := make([][]api.Trigger, m.Nodes)
		for who := range told {
			told[who] = Plan(m, who)
		}
		beatsIs(t, m, told)
		for cycle := range 2 * m.Cycles {
			windows := 0
			for _, w := range m.Windows {
				if matrix.Comes(w.Cycle, w.Repeat, cycle) {
					agreeIs(t, m, told, cycle, w)
					windows += min(1, free-w.Kind)
				}
			}
			for who, l := range told {
				if got := len(Due(l, cycle, -1, m.Length-1)); got != windows {
					t.Errorf("P15.3: node %d has %d triggers in %d windows of cycle %d of %s", who, got, windows, cycle, all(m))
				}
			}
		}
	}
}
