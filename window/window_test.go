package window

import (
	"fmt"
	"math"
	"math/rand"
	"slices"
	"strings"
	"testing"

	"ostinato/api"
	"ostinato/check"
)

// The limits and numbers of the document, written out.
const (
	mostNodes    = 8
	mostLength   = 4000
	mostEnable   = 16
	mostMessages = 12
	mostWindows  = 16
	mostUnit     = 64
	mostName     = 99 // of masters, owners, a window's message
	tickCount    = 4  // of a bit time
	longest      = 140

	exclusive, arbitrating, free = 1, 2, 3
)

// far: numbers of which sums and differences have no room in an int, or that low bits would make right ones.
var far = []int{math.MinInt, math.MinInt + 1, -1 << 40, -1 << 32, -1<<32 + 50, 65536 + 50, 1 << 32, 1<<32 + 50, 1 << 40, math.MaxInt - 1, math.MaxInt}

const plainStep = 38 // of plain: 35 units and 1 of a frame, 2 of Enable

// plain: an ordinary matrix with three kinds of windows; two of them lie upon one another in unlike cycles.
func plain() api.Matrix {
	return api.Matrix{
		Level: 2, Nodes: 4, Cycles: 4, Length: 300, Enable: 2, Unit: 16, Init: 100, Ref: 80,
		Masters:  []int{2, 0},
		Messages: []api.Message{{ID: 300, Owner: 1}, {ID: 40, Owner: 3, Event: true}, {ID: 41, Owner: 0}, {ID: 7, Owner: 3}},
		Windows: []api.Window{
			{Kind: exclusive, Start: 40, End: 80, Repeat: 1},
			{Kind: arbitrating, Start: 80, End: 150, Cycle: 1, Repeat: 2},
			{Kind: exclusive, Start: 90, End: 130, Repeat: 2, Msg: 2},
			{Kind: free, Start: 200, End: 203, Cycle: 3, Repeat: 4},
			{Kind: exclusive, Start: 260, End: 300, Cycle: 2, Repeat: 4, Msg: 3},
		},
	}
}

// all tells all of a matrix; of two it is the same if and only if they are alike in all.
func all(m api.Matrix) string {
	return fmt.Sprint(m.Level, m.Nodes, m.Cycles, m.Length, m.Enable, m.Unit, m.Init, m.Ref, "|", m.Masters, "|", m.Messages, "|", m.Windows)
}

// behind tells a matrix with all that stands in its spare room.
func behind(m api.Matrix) string {
	m.Masters = m.Masters[:cap(m.Masters)]
	m.Messages = m.Messages[:cap(m.Messages)]
	m.Windows = m.Windows[:cap(m.Windows)]
	return all(m)
}

// modelStep counts: units are laid until all ticks of a frame have room, one more, and Enable.
func modelStep(unit, enable int) int {
	n := 1 + enable
	for left := longest * tickCount; left > 0; left -= unit {
		n++
	}
	return n
}

func passes(m api.Matrix) bool {
	_, e := check.Check(m)
	return e == api.OK
}

// comes: of windows of a matrix alone, whose Cycle is below their Repeat.
func comes(w api.Window, cycle int) bool { return cycle >= 0 && cycle%w.Repeat == w.Cycle }

// told is all that may be asked of a cycle: the window and the owner of each unit, their signs, how many are free.
type told struct {
	windows, owners []int
	signs           string
	free            int
}

// paint lays a matrix's windows on the units of a cycle, the last ones at first, so that the first of them stays to be seen.
func paint(m api.Matrix, cycle int) told {
	p := told{windows: slices.Repeat([]int{-1}, m.Length), owners: slices.Repeat([]int{-1}, m.Length)}
	signs := slices.Repeat([]byte{'-'}, m.Length)
	for win, w := range slices.Backward(m.Windows) {
		for at := w.Start; at < w.End && comes(w, cycle); at++ {
			p.windows[at], p.owners[at] = win, -1
			signs[at] = "?EAF"[w.Kind]
			if w.Kind == exclusive {
				p.owners[at] = m.Messages[w.Msg].Owner
			}
		}
	}
	p.signs = string(signs)
	p.free = strings.Count(p.signs, "-") + strings.Count(p.signs, "F")
	return p
}

func atIs(t *testing.T, what string, m api.Matrix, cycle, at, win, owner int) {
	t.Helper()
	if got := At(m, cycle, at); got != win {
		t.Errorf("P16.1: %s: At in cycle %d at %d: %d, want %d, of %s", what, cycle, at, got, win, all(m))
	}
	if got := Owner(m, cycle, at); got != owner {
		t.Errorf("P16.1: %s: Owner in cycle %d at %d: %d, want %d, of %s", what, cycle, at, got, owner, all(m))
	}
}

func cycleIs(t *testing.T, what string, m api.Matrix, cycle int, signs string, count int) {
	t.Helper()
	if got := Kinds(m, cycle); got != signs {
		t.Errorf("P16.1: %s: Kinds of cycle %d: %q, want %q, of %s", what, cycle, got, signs, all(m))
	}
	if got := Free(m, cycle); got != count {
		t.Errorf("P16.1: %s: Free of cycle %d: %d, want %d, of %s", what, cycle, got, count, all(m))
	}
}

// paintIs asks all of a cycle, the units beyond its ends too.
func paintIs(t *testing.T, what string, m api.Matrix, cycle int) {
	t.Helper()
	was := behind(m)
	want := paint(m, cycle)
	for at := range m.Length {
		atIs(t, what, m, cycle, at, want.windows[at], want.owners[at])
	}
	for _, at := range append([]int{-2, -1, m.Length, m.Length + 1, 2 * m.Length}, far...) {
		if at < 0 || at >= m.Length {
			atIs(t, what, m, cycle, at, -1, -1)
		}
	}
	cycleIs(t, what, m, cycle, want.signs, want.free)
	if behind(m) != was {
		t.Errorf("P16.1: %s: it was changed: %s, it was %s", what, behind(m), was)
	}
}

// TestAtWritten: the unit ahead of each window, its first and last one, the one behind it, in cycles in which it comes and in which it doesn't.
func TestAtWritten(t *testing.T) {
	for _, c := range []struct{ cycle, at, win, owner int }{
		{0, 39, -1, -1}, {0, 40, 0, 1}, {0, 41, 0, 1}, {0, 78, 0, 1}, {0, 79, 0, 1}, {0, 80, -1, -1}, {0, 81, -1, -1},
		{1, 39, -1, -1}, {1, 40, 0, 1}, {2, 40, 0, 1}, {3, 79, 0, 1}, {4, 79, 0, 1}, {5, 60, 0, 1},

		{1, 79, 0, 1}, {1, 80, 1, -1}, {1, 81, 1, -1}, {1, 100, 1, -1}, {1, 149, 1, -1}, {1, 150, -1, -1}, {1, 151, -1, -1},
		{3, 80, 1, -1}, {3, 149, 1, -1}, {5, 80, 1, -1}, {5, 150, -1, -1}, {0, 149, -1, -1}, {2, 149, -1, -1}, {4, 80, -1, -1},

		{0, 89, -1, -1}, {0, 90, 2, 0}, {0, 129, 2, 0}, {0, 130, -1, -1}, {2, 90, 2, 0}, {4, 129, 2, 0}, {2, 89, -1, -1}, {2, 130, -1, -1},
		{1, 90, 1, -1}, {1, 129, 1, -1}, {3, 100, 1, -1},

		{3, 199, -1, -1}, {3, 200, 3, -1}, {3, 201, 3, -1}, {3, 202, 3, -1}, {3, 203, -1, -1}, {7, 200, 3, -1}, {11, 202, 3, -1},
		{0, 200, -1, -1}, {1, 200, -1, -1}, {2, 202, -1, -1}, {4, 201, -1, -1}, {5, 201, -1, -1}, {6, 201, -1, -1},

		{2, 259, -1, -1}, {2, 260, 4, 3}, {2, 298, 4, 3}, {2, 299, 4, 3}, {2, 300, -1, -1}, {2, 301, -1, -1}, {6, 299, 4, 3}, {6, 300, -1, -1},
		{0, 299, -1, -1}, {1, 299, -1, -1}, {3, 299, -1, -1}, {4, 299, -1, -1}, {3, 300, -1, -1},

		{0, 0, -1, -1}, {0, 1, -1, -1}, {0, -1, -1, -1}, {2, -1, -1, -1}, {2, -40, -1, -1}, {2, -260, -1, -1}, {2, -299, -1, -1}, {0, 340, -1, -1}, {2, 560, -1, -1},
		{-1, 40, -1, -1}, {-1, 100, -1, -1}, {-2, 100, -1, -1}, {-2, 270, -1, -1}, {-1, 201, -1, -1}, {-4, 40, -1, -1}, {-8, 40, -1, -1}, {math.MinInt, 40, -1, -1},
		{math.MaxInt, 40, 0, 1}, {math.MaxInt, 80, 1, -1}, {math.MaxInt, 130, 1, -1}, {math.MaxInt, 201, 3, -1}, {math.MaxInt, 270, -1, -1},
		{math.MaxInt - 1, 79, 0, 1}, {math.MaxInt - 1, 80, -1, -1}, {math.MaxInt - 1, 129, 2, 0}, {math.MaxInt - 1, 299, 4, 3}, {math.MaxInt - 1, 201, -1, -1},
		{1 << 40, 90, 2, 0}, {1 << 40, 80, -1, -1}, {1<<40 + 3, 202, 3, -1}, {1<<40 + 3, 90, 1, -1},
	} {
		atIs(t, "an ordinary one", plain(), c.cycle, c.at, c.win, c.owner)
	}
	for _, at := range append([]int{-2, -1, 300, 301}, far...) {
		for _, cycle := range append([]int{-1, 0, 1, 2, 3, 4}, far...) {
			atIs(t, "beyond the cycle", plain(), cycle, at, -1, -1)
		}
	}
}

// runs lays signs: so many of one, so many of the next.
func runs(parts ...any) string {
	out := ""
	for i := 0; i < len(parts); i += 2 {
		out += strings.Repeat(parts[i+1].(string), parts[i].(int))
	}
	return out
}

func TestCyclesWritten(t *testing.T) {
	m := plain()
	first := runs(40, "-", 40, "E", 10, "-", 40, "E", 170, "-")
	second := runs(40, "-", 40, "E", 70, "A", 150, "-")
	third := runs(40, "-", 40, "E", 10, "-", 40, "E", 130, "-", 40, "E")
	fourth := runs(40, "-", 40, "E", 70, "A", 50, "-", 3, "F", 97, "-")
	for cycle := 0; cycle < 40; cycle += 4 {
		cycleIs(t, "an ordinary one", m, cycle, first, 220)
		cycleIs(t, "an ordinary one", m, cycle+1, second, 190)
		cycleIs(t, "an ordinary one", m, cycle+2, third, 180)
		cycleIs(t, "an ordinary one", m, cycle+3, fourth, 190)
	}
	cycleIs(t, "far behind", m, 1<<40, first, 220)
	cycleIs(t, "far behind", m, math.MaxInt-2, second, 190)
	cycleIs(t, "far behind", m, math.MaxInt-1, third, 180)
	cycleIs(t, "far behind", m, math.MaxInt, fourth, 190)
	for _, cycle := range []int{-1, -2, -3, -4, -5, -8, -1 << 32, math.MinInt, math.MinInt + 1, math.MinInt + 2, math.MinInt + 3} {
		cycleIs(t, "below 0", m, cycle, strings.Repeat("-", 300), 300)
	}
}

func TestPainted(t *testing.T) {
	for cycle := -5; cycle < 13; cycle++ {
		paintIs(t, "an ordinary one", plain(), cycle)
	}
	for _, cycle := range far {
		paintIs(t, "far", plain(), cycle)
	}
}

func TestNoWindows(t *testing.T) {
	for _, length := range []int{plainStep, plainStep + 1, 300, mostLength - 1, mostLength} {
		for _, windows := range [][]api.Window{nil, {}} {
			m := plain()
			m.Length, m.Windows = length, windows
			for _, cycle := range append([]int{-1, 0, 1, 7, 8}, far...) {
				cycleIs(t, "no windows", m, cycle, strings.Repeat("-", length), length)
				for _, at := range append([]int{-1, 0, 1, plainStep, length - 1, length}, far...) {
					atIs(t, "no windows", m, cycle, at, -1, -1)
				}
			}
		}
	}
	bare := api.Matrix{Level: 1, Nodes: 1, Cycles: 1, Length: 11, Enable: 1, Unit: 64, Masters: []int{0}}
	paintIs(t, "the least", bare, 0)
	cycleIs(t, "the least", bare, 0, "-----------", 11)
}

// TestWholeCycle: windows without a gap, from where the first may begin to the cycle's end.
func TestWholeCycle(t *testing.T) {
	for step, kinds := range map[int][]int{0: {exclusive}, 1: {arbitrating}, 2: {exclusive, arbitrating}, 3: {exclusive, free, arbitrating}, 4: {free}} {
		m := plain()
		m.Length, m.Windows = plainStep*(mostWindows+1), nil
		want, count := strings.Repeat("-", plainStep), plainStep
		for i := range mostWindows {
			kind := kinds[i%len(kinds)]
			m.Windows = append(m.Windows, api.Window{Kind: kind, Start: plainStep * (i + 1), End: plainStep * (i + 2), Repeat: 1})
			want += strings.Repeat("?EAF"[kind:kind+1], plainStep)
			if kind == free {
				count += plainStep
			}
		}
		for _, cycle := range []int{0, 1, 3, 4, 99, math.MaxInt} {
			cycleIs(t, fmt.Sprint("a whole cycle, ", step), m, cycle, want, count)
			paintIs(t, fmt.Sprint("a whole cycle, ", step), m, cycle)
		}
		cycleIs(t, fmt.Sprint("a whole cycle, ", step), m, -1, strings.Repeat("-", m.Length), m.Length)
	}
	m := plain()
	m.Length, m.Windows = mostLength, []api.Window{{Kind: exclusive, Start: plainStep, End: mostLength, Repeat: 1}}
	cycleIs(t, "one window for all", m, 0, runs(plainStep, "-", mostLength-plainStep, "E"), plainStep)
	atIs(t, "one window for all", m, 0, plainStep-1, -1, -1)
	atIs(t, "one window for all", m, 0, plainStep, 0, 1)
	atIs(t, "one window for all", m, 0, mostLength-1, 0, 1)
	atIs(t, "one window for all", m, 0, mostLength, -1, -1)
	m.Windows[0].Kind = free
	cycleIs(t, "one free window for all", m, 0, runs(plainStep, "-", mostLength-plainStep, "F"), mostLength)
	atIs(t, "one free window for all", m, 0, mostLength-1, 0, -1)
}

// TestFreeCounted: a free window takes nothing away, wherever it lies and however long it is.
func TestFreeCounted(t *testing.T) {
	for _, kind := range []int{exclusive, arbitrating, free} {
		for _, start := range []int{plainStep, plainStep + 1, 150, 299 - plainStep, 300 - plainStep} {
			for _, end := range []int{start + plainStep, start + plainStep + 1, 299, 300} {
				if end-start < plainStep || end > 300 {
					continue
				}
				m := plain()
				m.Windows = []api.Window{{Kind: kind, Start: start, End: end, Repeat: 1}}
				count := 300
				if kind != free {
					count -= end - start
				}
				signs := runs(start, "-", end-start, "?EAF"[kind:kind+1], 300-end, "-")
				cycleIs(t, fmt.Sprintf("kind %d from %d to %d", kind, start, end), m, 0, signs, count)
			}
		}
	}
	m := plain()
	m.Windows = []api.Window{{Kind: free, Start: 299, End: 300, Repeat: 1}, {Kind: free, Start: plainStep, End: plainStep + 1, Repeat: 1}}
	cycleIs(t, "a unit each", m, 0, runs(plainStep, "-", 1, "F", 299-plainStep-1, "-", 1, "F"), 300)
	atIs(t, "a unit each", m, 0, plainStep, 1, -1)
	atIs(t, "a unit each", m, 0, plainStep+1, -1, -1)
	atIs(t, "a unit each", m, 0, 298, -1, -1)
	atIs(t, "a unit each", m, 0, 299, 0, -1)
}

// TestOwners: of every message and node; of other kinds nobody, although their Msg is 0 too.
func TestOwners(t *testing.T) {
	for msg := range mostMessages {
		for owner := range mostNodes {
			m := plain()
			m.Nodes, m.Messages = mostNodes, nil
			for i := range mostMessages {
				m.Messages = append(m.Messages, api.Message{ID: uint32(500 + i), Owner: (owner + 1) % mostNodes, Event: i != msg})
			}
			m.Messages[msg].Owner = owner
			m.Windows = []api.Window{{Kind: arbitrating, Start: 50, End: 100, Repeat: 1}, {Kind: exclusive, Start: 100, End: 150, Repeat: 1, Msg: msg}, {Kind: free, Start: 150, End: 200, Repeat: 1}}
			what := fmt.Sprintf("message %d of node %d", msg, owner)
			atIs(t, what, m, 0, 49, -1, -1)
			atIs(t, what, m, 0, 50, 0, -1)
			atIs(t, what, m, 0, 99, 0, -1)
			atIs(t, what, m, 0, 100, 1, owner)
			atIs(t, what, m, 0, 149, 1, owner)
			atIs(t, what, m, 0, 150, 2, -1)
			atIs(t, what, m, 0, 200, -1, -1)
		}
	}
}

// TestNeverMeet: windows in one another's place in cycles that never meet, each seen in its own cycles alone.
func TestNeverMeet(t *testing.T) {
	m := plain()
	m.Cycles = 8
	m.Windows = []api.Window{
		{Kind: exclusive, Start: 100, End: 150, Cycle: 6, Repeat: 8, Msg: 2},
		{Kind: arbitrating, Start: 100, End: 150, Cycle: 1, Repeat: 2},
		{Kind: free, Start: 100, End: 150, Cycle: 2, Repeat: 8},
		{Kind: exclusive, Start: 100, End: 150, Cycle: 0, Repeat: 4, Msg: 3},
	}
	for cycle := range 24 {
		win, owner, sign := []int{3, 1, 2, 1, 3, 1, 0, 1}[cycle%8], []int{3, -1, -1, -1, 3, -1, 0, -1}[cycle%8], "EAFAEAEA"[cycle%8:cycle%8+1]
		for _, at := range []int{100, 101, 149} {
			atIs(t, "one place", m, cycle, at, win, owner)
		}
		atIs(t, "one place", m, cycle, 99, -1, -1)
		atIs(t, "one place", m, cycle, 150, -1, -1)
		count := 250
		if sign == "F" {
			count = 300
		}
		cycleIs(t, "one place", m, cycle, runs(100, "-", 50, sign, 150, "-"), count)
		paintIs(t, "one place", m, cycle)
	}
	// and cycles in which none of them comes
	m.Windows = m.Windows[:1]
	for cycle := range 24 {
		signs, count := strings.Repeat("-", 300), 300
		if cycle%8 == 6 {
			signs, count = runs(100, "-", 50, "E", 150, "-"), 250
		}
		cycleIs(t, "one place, one window", m, cycle, signs, count)
	}
}

// TestEachInItsCycle: eight windows in one place, one for each cycle there is, in any places of the list.
func TestEachInItsCycle(t *testing.T) {
	random := rand.New(rand.NewSource(161))
	for range 50 {
		m := plain()
		m.Cycles, m.Windows = 8, nil
		order := random.Perm(8)
		for _, cycle := range order {
			m.Windows = append(m.Windows, api.Window{Kind: exclusive, Start: 60 + cycle, End: 100 + cycle, Cycle: cycle, Repeat: 8, Msg: 2 * (cycle % 2)})
		}
		for cycle := range 20 {
			turn := cycle % 8
			owner := 1 - turn%2
			atIs(t, "one each", m, cycle, 59+turn, -1, -1)
			atIs(t, "one each", m, cycle, 60+turn, slices.Index(order, turn), owner)
			atIs(t, "one each", m, cycle, 99+turn, slices.Index(order, turn), owner)
			atIs(t, "one each", m, cycle, 100+turn, -1, -1)
			cycleIs(t, "one each", m, cycle, runs(60+turn, "-", 40, "E", 200-turn, "-"), 260)
		}
	}
}

// refusedOnes: each is refused by something else, some of them by layer 12 already; in most of them all windows are as they should be.
func refusedOnes() map[string]api.Matrix {
	out := map[string]api.Matrix{"nothing": {}, "a Length alone": {Length: 5}, "the greatest Length alone": {Length: math.MaxInt}, "masters and a Length alone": {Length: 300, Masters: []int{0}}}
	set := func(name string, change func(m *api.Matrix)) {
		m := plain()
		change(&m)
		out[name] = m
	}
	for _, n := range append([]int{-1, mostName * 100}, far...) {
		set(fmt.Sprint("Level ", n), func(m *api.Matrix) { m.Level = n })
		set(fmt.Sprint("Nodes ", n), func(m *api.Matrix) { m.Nodes = n })
		set(fmt.Sprint("Cycles ", n), func(m *api.Matrix) { m.Cycles = n })
		set(fmt.Sprint("Length ", n), func(m *api.Matrix) { m.Length = n })
		set(fmt.Sprint("Enable ", n), func(m *api.Matrix) { m.Enable = n })
		set(fmt.Sprint("Unit ", n), func(m *api.Matrix) { m.Unit = n })
		set(fmt.Sprint("Init ", n), func(m *api.Matrix) { m.Init = n })
		set(fmt.Sprint("master ", n), func(m *api.Matrix) { m.Masters[1] = n })
		set(fmt.Sprint("Owner ", n), func(m *api.Matrix) { m.Messages[3].Owner = n })
		set(fmt.Sprint("Kind ", n), func(m *api.Matrix) { m.Windows[4].Kind = n })
		set(fmt.Sprint("Start ", n), func(m *api.Matrix) { m.Windows[4].Start = n })
		set(fmt.Sprint("End ", n), func(m *api.Matrix) { m.Windows[4].End = n })
		set(fmt.Sprint("Cycle ", n), func(m *api.Matrix) { m.Windows[4].Cycle = n })
		set(fmt.Sprint("Repeat ", n), func(m *api.Matrix) { m.Windows[4].Repeat = n })
		set(fmt.Sprint("Msg ", n), func(m *api.Matrix) { m.Windows[0].Msg = n })
	}
	set("Ref 81", func(m *api.Matrix) { m.Ref++ })
	set("Kind 0", func(m *api.Matrix) { m.Windows[4].Kind = 0 })
	set("Kind 4", func(m *api.Matrix) { m.Windows[4].Kind = 4 })
	set("Repeat 0", func(m *api.Matrix) { m.Windows[4].Repeat = 0 })
	set("no masters", func(m *api.Matrix) { m.Masters = nil })
	set("five masters", func(m *api.Matrix) { m.Masters = []int{0, 1, 2, 3, 4} })
	set("too many messages", func(m *api.Matrix) { m.Messages = append(m.Messages, make([]api.Message, mostMessages)...) })
	set("too many windows", func(m *api.Matrix) { m.Windows = append(m.Windows, make([]api.Window, mostWindows)...) })
	set("too short", func(m *api.Matrix) { m.Length, m.Windows = plainStep-1, nil })
	set("a window beyond the end", func(m *api.Matrix) { m.Windows[4].End = 301 })
	set("a master that is no node", func(m *api.Matrix) { m.Masters[1] = 4 })
	set("an owner that is no node", func(m *api.Matrix) { m.Messages[3].Owner = 4 })
	set("a master twice", func(m *api.Matrix) { m.Masters[1] = 2 })
	set("an ID twice", func(m *api.Matrix) { m.Messages[3].ID = 40 })
	set("a beat's ID", func(m *api.Matrix) { m.Messages[3].ID = 87 })
	set("no such message", func(m *api.Matrix) { m.Windows[4].Msg = 4 })
	set("the last number of a message", func(m *api.Matrix) { m.Windows[4].Msg = mostName })
	set("an event's window", func(m *api.Matrix) { m.Windows[4].Msg = 1 })
	set("too early", func(m *api.Matrix) { m.Windows[0].Start = plainStep - 1 })
	set("a free one too early", func(m *api.Matrix) { m.Windows[3].Start = plainStep - 1; m.Windows[3].End = plainStep })
	set("no room", func(m *api.Matrix) { m.Windows[4].Start = 300 - plainStep + 1 })
	set("upon one another", func(m *api.Matrix) { m.Windows[2].Cycle = 1 })
	set("upon one another at a unit", func(m *api.Matrix) { m.Windows[0].End = 81 })
	set("a free one upon another", func(m *api.Matrix) { m.Windows[3].Start = 149 })
	return out
}

func TestRefused(t *testing.T) {
	for what, m := range refusedOnes() {
		if passes(m) {
			t.Fatalf("%s: it passes", what)
		}
		was := behind(m)
		for _, cycle := range append([]int{-1, 0, 1, 2, 3, 4, 7, 1000}, far...) {
			for _, at := range append([]int{-1, 0, 4, 39, 40, 50, 79, 80, 100, 200, 201, 260, 299, 300}, far...) {
				atIs(t, what, m, cycle, at, -1, -1)
			}
			cycleIs(t, what, m, cycle, "", 0)
		}
		if behind(m) != was {
			t.Errorf("P16.1: %s: it was changed", what)
		}
	}
}

func pick(random *rand.Rand, from ...int) int { return from[random.Intn(len(from))] }

// anyMatrix: all of them pass; windows are laid as long as they fit, in any order, some upon one another in unlike cycles.
func anyMatrix(random *rand.Rand) api.Matrix {
	m := api.Matrix{
		Level: 1 + random.Intn(2), Nodes: 1 + random.Intn(mostNodes), Cycles: pick(random, 1, 2, 4, 8), Length: 80 + random.Intn(200),
		Enable: 1 + random.Intn(3), Unit: pick(random, 16, 33, 47, 64), Ref: uint32(8 * random.Intn(200)), Masters: []int{0},
	}
	for i := range random.Intn(mostMessages + 1) {
		m.Messages = append(m.Messages, api.Message{ID: uint32(1700 + i), Owner: random.Intn(m.Nodes), Event: random.Intn(4) == 0})
	}
	step := modelStep(m.Unit, m.Enable)
	for range 40 {
		start := step + random.Intn(m.Length)
		w := api.Window{Kind: 1 + random.Intn(3), Start: start, End: start + step + pick(random, 0, 1, 6, 11), Repeat: min(m.Cycles, pick(random, 1, 2, 4, 8))}
		w.Cycle = random.Intn(w.Repeat)
		switch w.Kind {
		case exclusive:
			w.Msg = random.Intn(len(m.Messages) + 1)
		case free:
			w.End = start + 1 + random.Intn(30)
		}
		more := m
		more.Windows = append(slices.Clone(m.Windows), w)
		if passes(more) {
			m = more
		}
	}
	return m
}

func TestAny(t *testing.T) {
	random := rand.New(rand.NewSource(16))
	count := map[byte]int{}
	for range 300 {
		m := anyMatrix(random)
		for _, cycle := range []int{-1, 0, 1, 2, 3, m.Cycles, random.Intn(100), random.Int()} {
			paintIs(t, "any", m, cycle)
			for _, sign := range []byte(Kinds(m, cycle)) {
				count[sign]++
			}
		}
	}
	for _, sign := range []byte("EAF-") {
		if count[sign] < 5000 {
			t.Errorf("of the sign %c there are but %d", sign, count[sign])
		}
	}
}

// TestSteps: the first window may begin a Step behind the beat's beginning, whatever Unit and Enable are, and not ahead of that.
func TestSteps(t *testing.T) {
	m := plain()
	m.Length = mostLength
	for m.Unit = 1; m.Unit <= mostUnit; m.Unit++ {
		for _, m.Enable = range []int{1, 2, mostEnable} {
			step := modelStep(m.Unit, m.Enable)
			what := fmt.Sprintf("Unit %d, Enable %d", m.Unit, m.Enable)
			m.Windows = []api.Window{{Kind: exclusive, Start: step, End: 2 * step, Repeat: 1}}
			atIs(t, what, m, 0, step-1, -1, -1)
			atIs(t, what, m, 0, step, 0, 1)
			atIs(t, what, m, 0, 2*step-1, 0, 1)
			atIs(t, what, m, 0, 2*step, -1, -1)
			cycleIs(t, what, m, 0, runs(step, "-", step, "E", mostLength-2*step, "-"), mostLength-step)
			m.Windows[0].Start--
			atIs(t, what, m, 0, step, -1, -1)
			cycleIs(t, what, m, 0, "", 0)
		}
	}
}

// TestOneAtMost: however the windows are ordered, a unit has the same one; as many units have a window's sign as its length.
func TestOneAtMost(t *testing.T) {
	random := rand.New(rand.NewSource(162))
	for range 150 {
		m := anyMatrix(random)
		other := m
		other.Windows = slices.Clone(m.Windows)
		slices.Reverse(other.Windows)
		last := len(m.Windows) - 1
		for cycle := range m.Cycles {
			seen := make([]int, len(m.Windows))
			for at := range m.Length {
				one, two := At(m, cycle, at), At(other, cycle, at)
				if (one != -1 || two != -1) && one != last-two {
					t.Errorf("P16.2: cycle %d, unit %d: windows %d and %d, of %s", cycle, at, one, last-two, all(m))
				}
				if one != -1 {
					seen[one]++
				}
			}
			wanted, count := make([]int, len(m.Windows)), 0
			for win, w := range m.Windows {
				if comes(w, cycle) {
					wanted[win] = w.End - w.Start
					count += wanted[win]
				}
			}
			if !slices.Equal(seen, wanted) {
				t.Errorf("P16.2: cycle %d: the windows have %v units, want %v, of %s", cycle, seen, wanted, all(m))
			}
			if got := m.Length - strings.Count(Kinds(m, cycle), "-"); got != count {
				t.Errorf("P16.2: cycle %d: %d units have a window, want %d, of %s", cycle, got, count, all(m))
			}
		}
	}
}

// TestTwoOfAUnit: wherever two windows would have a unit of a cycle together, nothing has a window any more; side by side they have theirs.
func TestTwoOfAUnit(t *testing.T) {
	for start := 40; start <= 200; start++ {
		for _, cycles := range [][4]int{{0, 1, 0, 1}, {1, 2, 0, 1}, {1, 2, 3, 4}, {1, 2, 2, 4}, {0, 2, 1, 2}} {
			for kinds := range 9 {
				m := plain()
				m.Windows = []api.Window{
					{Kind: 1 + kinds%3, Start: 100, End: 140, Cycle: cycles[0], Repeat: cycles[1]},
					{Kind: 1 + kinds/3, Start: start, End: start + 40, Cycle: cycles[2], Repeat: cycles[3]},
				}
				twice := false
				for cycle := range 4 {
					twice = twice || comes(m.Windows[0], cycle) && comes(m.Windows[1], cycle) && start > 60 && start < 140
				}
				for cycle := range 4 {
					for place, w := range m.Windows {
						win, signs := place, 300
						if twice {
							win, signs = -1, 0
						}
						if comes(w, cycle) && (At(m, cycle, w.Start) != win || At(m, cycle, w.End-1) != win) {
							t.Errorf("P16.2: cycle %d: At of window %d isn't %d, of %s", cycle, place, win, all(m))
						}
						if got := len(Kinds(m, cycle)); got != signs {
							t.Errorf("P16.2: cycle %d: %d signs, want %d, of %s", cycle, got, signs, all(m))
						}
					}
				}
			}
		}
	}
}

// TestSpareRoom: what lies behind the lists is neither read nor changed.
func TestSpareRoom(t *testing.T) {
	m := plain()
	m.Masters = append(m.Masters, 1, 3)[:2]
	m.Messages = append(m.Messages, api.Message{ID: 1, Owner: 1})[:4]
	m.Windows = append(m.Windows, api.Window{Kind: arbitrating, Start: 210, End: 255, Repeat: 1})[:5]
	for cycle := range 8 {
		paintIs(t, "spare room", m, cycle)
		if Kinds(m, cycle) != Kinds(plain(), cycle) {
			t.Errorf("P16.1: cycle %d: what lies behind the lists is to be seen", cycle)
		}
	}
}

// TestKept: an answer stays as it is, whatever the matrix becomes; the same is answered again.
func TestKept(t *testing.T) {
	m := plain()
	was := Kinds(m, 2)
	m.Windows[0].Start, m.Windows[4].End, m.Messages[0].Owner = 39, 299, 2
	atIs(t, "another one", m, 2, 39, 0, 2)
	atIs(t, "another one", m, 2, 299, -1, -1)
	if was != Kinds(plain(), 2) || was == Kinds(m, 2) {
		t.Errorf("P16.1: what was told is another one now: %s", was)
	}
	for range 3 {
		atIs(t, "the first one again", plain(), 2, 299, 4, 3)
		cycleIs(t, "the first one again", plain(), 2, was, 180)
	}
}
