package check

import (
	"fmt"
	"math"
	"math/rand"
	"slices"
	"testing"

	"ostinato/api"
	"ostinato/matrix"
)

// The limits and numbers of the document, written out.
const (
	mostNodes    = 8
	mostMasters  = 4
	mostMessages = 12
	mostWindows  = 16
	mostEnable   = 16
	mostUnit     = 64
	mostName     = 99 // of masters, owners, a window's message
	idEnd        = 2048
	tickCount    = 4   // of a bit time
	longest      = 140 // bits of a frame
	heldBits     = 1000

	fine      = api.Errno(0)
	noMatrix  = api.Errno(120)
	badLength = api.Errno(140)
	badWho    = api.Errno(141)
	twice     = api.Errno(142)
	overlap   = api.Errno(143)
	noRoom    = api.Errno(144)
	noMessage = api.Errno(145)
)

// far: numbers of which sums and differences have no room in an int.
var far = []int{math.MinInt, math.MinInt + 1, -1 << 40, -1 << 32, 1 << 32, 1<<32 + 3, 1 << 40, math.MaxInt - 1, math.MaxInt}

// plain: an ordinary matrix with three kinds of windows; its Step is 38 (35 units and 1 of a frame, 2 of Enable).
func plain() api.Matrix {
	return api.Matrix{
		Level: 2, Nodes: 4, Cycles: 4, Length: 300, Enable: 2, Unit: 16, Init: 100, Ref: 80,
		Masters:  []int{2, 0},
		Messages: []api.Message{{ID: 300, Owner: 1}, {ID: 40, Owner: 3, Event: true}, {ID: 41, Owner: 0}},
		Windows: []api.Window{
			{Kind: api.WExclusive, Start: 40, End: 80, Repeat: 1},
			{Kind: api.WArbitrating, Start: 80, End: 150, Cycle: 1, Repeat: 2},
			{Kind: api.WExclusive, Start: 90, End: 130, Repeat: 2, Msg: 2},
			{Kind: api.WFree, Start: 200, End: 203, Cycle: 3, Repeat: 4},
		},
	}
}

const fullStep = 12 // of full: 9 units and 1 of a frame, 2 of Enable

// full: every list as long as may be, and nothing wrong; between the windows there are gaps, so that each one's bounds may be moved.
func full() api.Matrix {
	m := api.Matrix{Level: 1, Nodes: mostNodes, Cycles: 8, Length: 400, Enable: 2, Unit: 64, Init: 7, Ref: 1000, Masters: []int{7, 3, 0, 5}}
	for i := range mostMessages {
		m.Messages = append(m.Messages, api.Message{ID: uint32(1020 - i), Owner: i % mostNodes, Event: i%3 == 1})
	}
	for i := range mostWindows {
		m.Windows = append(m.Windows, api.Window{Kind: i%3 + 1, Start: 13 + 20*i, End: 27 + 20*i, Repeat: 1})
	}
	m.Windows[3].Msg, m.Windows[6].Msg, m.Windows[9].Msg = 11, 2, 3
	return m
}

// all tells all of a matrix; of two it is the same if and only if they are alike in all.
func all(m api.Matrix) string {
	return fmt.Sprint(m.Level, m.Nodes, m.Cycles, m.Length, m.Enable, m.Unit, m.Init, m.Ref, "|", m.Masters, "|", m.Messages, "|", m.Windows)
}

// modelUnits counts: units are laid until all ticks have room, and one more.
func modelUnits(unit, bits int) int {
	bits = max(0, min(bits, heldBits))
	n := 1
	for left := bits * tickCount; left > 0; left -= min(left, max(unit, 1)) {
		n++
	}
	return n
}

// modelStep is asked of matrices alone.
func modelStep(m api.Matrix) int { return modelUnits(m.Unit, longest) + m.Enable }

// paint: all that a window of a matrix has, unit by unit, one cycle behind the other.
func paint(m api.Matrix, w api.Window) []bool {
	out := make([]bool, m.Cycles*m.Length)
	for cycle := w.Cycle; cycle < m.Cycles; cycle += w.Repeat {
		for unit := w.Start; unit < w.End; unit++ {
			out[cycle*m.Length+unit] = true
		}
	}
	return out
}

func shares(a, b []bool) bool {
	for at := range a {
		if a[at] && b[at] {
			return true
		}
	}
	return false
}

// fault: an error with its place; order tells which of two is told.
type fault struct {
	part, at, step int
	e              api.Errno
}

func (f fault) order() int { return f.part*10000 + f.at*10 + f.step }

// Parts of the order: each is gone through whole ahead of the next one.
const (
	partMatrix = iota
	partLength
	partMasterWho
	partOwnerWho
	partMasterTwice
	partMessageTwice
	partWindow
)

// The order at one window.
const (
	stepNone = iota
	stepRoom
	stepOverlap
)

// modelFaults: all that is wrong with a matrix, in any order.
func modelFaults(m api.Matrix) []fault {
	if !matrix.Is(m) {
		return []fault{{part: partMatrix, e: noMatrix}}
	}
	var out []fault
	add := func(wrong bool, part, at, step int, e api.Errno) {
		if wrong {
			out = append(out, fault{part, at, step, e})
		}
	}
	step := modelStep(m)
	painted := make([][]bool, len(m.Windows))
	for at, w := range m.Windows {
		add(w.Kind == 1 && (w.Msg >= len(m.Messages) || m.Messages[w.Msg].Event), partWindow, at, stepNone, noMessage)
		add(w.Start < step, partWindow, at, stepRoom, noRoom)
		add(w.Kind != 3 && w.End < w.Start+step, partWindow, at, stepRoom, noRoom)
		painted[at] = paint(m, w)
		for _, p := range painted[:at] {
			add(shares(p, painted[at]), partWindow, at, stepOverlap, overlap)
		}
	}
	ids := map[uint32]bool{}
	for id := m.Ref; id < m.Ref+8; id++ {
		ids[id] = true
	}
	for at, g := range m.Messages {
		add(g.Owner >= m.Nodes, partOwnerWho, at, 0, badWho)
		add(ids[g.ID], partMessageTwice, at, 0, twice)
		ids[g.ID] = true
	}
	nodes := map[int]bool{}
	for at, who := range m.Masters {
		add(who >= m.Nodes, partMasterWho, at, 0, badWho)
		add(nodes[who], partMasterTwice, at, 0, twice)
		nodes[who] = true
	}
	add(m.Length < step, partLength, 0, 0, badLength)
	return out
}

func modelCheck(m api.Matrix) (int, api.Errno) {
	faults := modelFaults(m)
	if len(faults) == 0 {
		return 0, fine
	}
	one := slices.MinFunc(faults, func(a, b fault) int { return a.order() - b.order() })
	return one.at, one.e
}

func checkIs(t *testing.T, what string, m api.Matrix, at int, e api.Errno) {
	t.Helper()
	was := all(m)
	for range 2 {
		if gotAt, gotE := Check(m); gotAt != at || gotE != e {
			t.Errorf("P14.2: %s: Check: %d, %v, want %d, %v, of %s", what, gotAt, gotE, at, e, was)
		}
	}
	if wantAt, want := modelCheck(m); wantAt != at || want != e {
		t.Errorf("%s: the model: %d, %v, want %d, %v", what, wantAt, want, at, e)
	}
	if all(m) != was {
		t.Errorf("P14.2: %s: it was changed", what)
	}
	if e == fine {
		roomIs(t, what, m)
	}
}

// roomIs: what passes has room for all: no unit of a cycle is two windows', all beats and frames have their Step.
func roomIs(t *testing.T, what string, m api.Matrix) {
	t.Helper()
	step := Step(m)
	if m.Length < step {
		t.Errorf("P14.3: %s: no room for the beat: %s", what, all(m))
	}
	taken := make([]bool, m.Cycles*m.Length)
	for at, w := range m.Windows {
		if w.Start < step || w.End > m.Length || w.Kind != api.WFree && w.End-w.Start < step {
			t.Errorf("P14.3: %s: no room in window %d of %s", what, at, all(m))
		}
		for place, has := range paint(m, w) {
			if has && taken[place] {
				t.Errorf("P14.3: %s: unit %d of cycle %d is another window's than %d's of %s", what, place%m.Length, place/m.Length, at, all(m))
				return
			}
			taken[place] = taken[place] || has
		}
	}
}

func unitsIs(t *testing.T, unit, bits, want int) {
	t.Helper()
	for _, m := range []api.Matrix{{}, plain(), full()} {
		m.Unit = unit
		if got := Units(m, bits); got != want {
			t.Errorf("P14.1: Units of %d bits, units of %d ticks: %d, want %d", bits, unit, got, want)
		}
	}
}

func TestUnits(t *testing.T) {
	for _, c := range []struct{ unit, bits, want int }{
		{4, 0, 1}, {4, 1, 2}, {4, 2, 3}, {4, 999, 1000}, {4, 1000, 1001}, {4, 1001, 1001},
		{1, 0, 1}, {1, 1, 5}, {1, 140, 561}, {1, 1000, 4001}, {1, 1001, 4001},
		{64, 0, 1}, {64, 1, 2}, {64, 16, 2}, {64, 17, 3}, {64, 32, 3}, {64, 33, 4}, {64, 140, 10}, {64, 1000, 64}, {64, 992, 63}, {64, 993, 64},
		{3, 3, 5}, {3, 4, 7}, {7, 7, 5}, {7, 8, 6}, {16, 140, 36}, {16, 141, 37},
		{65, 65, 5}, {65, 66, 6}, {3999, 1000, 3}, {4000, 1000, 2}, {4001, 1000, 2},
	} {
		unitsIs(t, c.unit, c.bits, c.want)
	}
}

func TestUnitsHeld(t *testing.T) {
	for _, unit := range []int{1, 3, 16, 64, 100} {
		for _, bits := range []int{-1, -2, -1000, -1 << 32, -1<<62 + 1, math.MinInt, math.MinInt + 1} {
			unitsIs(t, unit, bits, 1)
		}
		for _, bits := range []int{1000, 1001, 1002, 1 << 32, 1 << 61, 1<<62 + 1, math.MaxInt - 1, math.MaxInt} {
			unitsIs(t, unit, bits, modelUnits(unit, heldBits))
		}
	}
	for _, unit := range []int{1, 0, -1, -16, -1 << 32, math.MinInt, math.MinInt + 1} {
		for _, bits := range []int{-1, 0, 1, 17, 140, 999, 1000, 1001} {
			unitsIs(t, unit, bits, max(0, min(bits, heldBits))*tickCount+1)
		}
	}
	for _, unit := range []int{4000, 1 << 16, 1 << 32, 1<<63 - 4000, math.MaxInt - 1, math.MaxInt} {
		unitsIs(t, unit, 0, 1)
		unitsIs(t, unit, 1, 2)
		unitsIs(t, unit, 1000, 2)
		unitsIs(t, unit, math.MaxInt, 2)
	}
}

func TestUnitsAll(t *testing.T) {
	for unit := -1; unit <= mostUnit+2; unit++ {
		for bits := -2; bits <= heldBits+2; bits++ {
			m := api.Matrix{Unit: unit}
			if got, want := Units(m, bits), modelUnits(unit, bits); got != want {
				t.Fatalf("P14.1: Units of %d bits, units of %d ticks: %d, want %d", bits, unit, got, want)
			}
		}
	}
}

func stepIs(t *testing.T, what string, m api.Matrix, want int) {
	t.Helper()
	was := all(m)
	if got := Step(m); got != want {
		t.Errorf("P14.1: %s: Step: %d, want %d", what, got, want)
	}
	if all(m) != was {
		t.Errorf("P14.1: %s: it was changed", what)
	}
}

func TestStep(t *testing.T) {
	stepIs(t, "an ordinary one", plain(), 38)
	stepIs(t, "a full one", full(), fullStep)
	for unit := 1; unit <= mostUnit; unit++ {
		for enable := 1; enable <= mostEnable; enable++ {
			m := plain()
			m.Unit, m.Enable = unit, enable
			stepIs(t, fmt.Sprintf("Unit %d, Enable %d", unit, enable), m, modelUnits(unit, longest)+enable)
		}
	}
	m := plain()
	m.Unit, m.Enable = 1, 16
	stepIs(t, "the longest", m, 577)
	m.Unit, m.Enable = 64, 1
	stepIs(t, "the shortest", m, 11)
}

// TestStepAlone: what layer 12 takes has a Step, whether Check tells it OK or not.
func TestStepAlone(t *testing.T) {
	m := plain()
	m.Masters = []int{99, 99}
	m.Windows[0].Msg = 99
	stepIs(t, "one that Check refuses", m, 38)
	m = plain()
	m.Windows = nil
	m.Length = 1
	stepIs(t, "one that is too short", m, 38)
}

// noMatrices: each is none, each by something else.
func noMatrices() map[string]api.Matrix {
	out := map[string]api.Matrix{"nothing": {}, "a Unit and an Enable": {Unit: 16, Enable: 2}}
	set := func(name string, change func(m *api.Matrix)) {
		m := plain()
		change(&m)
		out[name] = m
	}
	for _, n := range append([]int{-1, 0, mostName * 100}, far...) {
		set(fmt.Sprint("Level ", n), func(m *api.Matrix) { m.Level = n })
		set(fmt.Sprint("Nodes ", n), func(m *api.Matrix) { m.Nodes = n })
		set(fmt.Sprint("Cycles ", n), func(m *api.Matrix) { m.Cycles = n })
		set(fmt.Sprint("Length ", n), func(m *api.Matrix) { m.Length = n })
		set(fmt.Sprint("Enable ", n), func(m *api.Matrix) { m.Enable = n })
		set(fmt.Sprint("Unit ", n), func(m *api.Matrix) { m.Unit = n })
		set(fmt.Sprint("Kind ", n), func(m *api.Matrix) { m.Windows[1].Kind = n })
		set(fmt.Sprint("Repeat ", n), func(m *api.Matrix) { m.Windows[1].Repeat = n })
		set(fmt.Sprint("End ", n), func(m *api.Matrix) { m.Windows[1].End = n })
	}
	for _, n := range append([]int{-1, mostName * 100}, far...) {
		set(fmt.Sprint("Init ", n), func(m *api.Matrix) { m.Init = n })
		set(fmt.Sprint("master ", n), func(m *api.Matrix) { m.Masters[1] = n })
		set(fmt.Sprint("Owner ", n), func(m *api.Matrix) { m.Messages[2].Owner = n })
		set(fmt.Sprint("Start ", n), func(m *api.Matrix) { m.Windows[1].Start = n })
		set(fmt.Sprint("Cycle ", n), func(m *api.Matrix) { m.Windows[1].Cycle = n })
		set(fmt.Sprint("Msg ", n), func(m *api.Matrix) { m.Windows[0].Msg = n })
	}
	for _, n := range []uint32{idEnd, 1 << 31, math.MaxUint32 - 7, math.MaxUint32} {
		set(fmt.Sprint("Ref ", n), func(m *api.Matrix) { m.Ref = n })
		set(fmt.Sprint("ID ", n), func(m *api.Matrix) { m.Messages[2].ID = n })
	}
	set("Level 3", func(m *api.Matrix) { m.Level = 3 })
	set("Nodes 9", func(m *api.Matrix) { m.Nodes = mostNodes + 1 })
	set("Cycles 3", func(m *api.Matrix) { m.Cycles = 3 })
	set("Enable 17", func(m *api.Matrix) { m.Enable = mostEnable + 1 })
	set("Unit 65", func(m *api.Matrix) { m.Unit = mostUnit + 1 })
	set("Ref 81", func(m *api.Matrix) { m.Ref++ })
	set("no masters", func(m *api.Matrix) { m.Masters = nil })
	set("a window of no units", func(m *api.Matrix) { m.Windows[3].Start = m.Windows[3].End })
	set("a window behind the cycle's end", func(m *api.Matrix) { m.Windows[3].End = m.Length + 1 })
	set("a free window's message", func(m *api.Matrix) { m.Windows[3].Msg = 1 })
	set("too many windows", func(m *api.Matrix) { m.Windows = make([]api.Window, mostWindows+1) })
	return out
}

func TestNoMatrix(t *testing.T) {
	for what, m := range noMatrices() {
		if matrix.Is(m) {
			t.Fatalf("%s: it is a matrix", what)
		}
		stepIs(t, what, m, 0)
		checkIs(t, what, m, 0, noMatrix)
	}
}

func meetIs(t *testing.T, what string, m api.Matrix, a, b int, want bool) {
	t.Helper()
	was := all(m)
	if got := Meet(m, a, b); got != want {
		t.Errorf("P14.1: %s: Meet(%d, %d): %v, want %v", what, a, b, got, want)
	}
	if got := Meet(m, b, a); got != want {
		t.Errorf("P14.1: %s: Meet(%d, %d): %v, want %v", what, b, a, got, want)
	}
	if all(m) != was {
		t.Errorf("P14.1: %s: it was changed", what)
	}
}

func TestMeetThere(t *testing.T) {
	m := plain()
	for a := range m.Windows {
		meetIs(t, "with itself", m, a, a, true)
		for _, b := range append([]int{-1, -2, -4, len(m.Windows), len(m.Windows) + 1, mostWindows, mostWindows * 100}, far...) {
			meetIs(t, "with none", m, a, b, false)
			meetIs(t, "none with itself", m, b, b, false)
		}
	}
	m.Windows = nil
	meetIs(t, "no windows", m, 0, 0, false)
	meetIs(t, "nothing", api.Matrix{}, 0, 0, false)
	meetIs(t, "nothing", api.Matrix{Cycles: 8}, 0, 0, false)
	// the room behind the list has windows that aren't there
	m = plain()
	m.Windows = m.Windows[:1:4]
	meetIs(t, "room behind the list", m, 0, 1, false)
	meetIs(t, "room behind the list", m, 1, 1, false)
}

// two: a matrix of two windows.
func two(cycles int, v, w api.Window) api.Matrix {
	return api.Matrix{Cycles: cycles, Windows: []api.Window{v, w}}
}

func TestMeetUnits(t *testing.T) {
	for _, c := range []struct {
		what                 string
		start, end, from, to int
		want                 bool
	}{
		{"apart", 10, 20, 30, 40, false},
		{"a unit apart", 10, 20, 21, 30, false},
		{"they touch", 10, 20, 20, 30, false},
		{"a unit together", 10, 20, 19, 30, true},
		{"the same", 10, 20, 10, 20, true},
		{"within", 10, 20, 14, 16, true},
		{"within, one unit", 10, 20, 15, 16, true},
		{"within, at the beginning", 10, 20, 10, 11, true},
		{"within, at the end", 10, 20, 19, 20, true},
		{"ahead of the beginning, one unit", 10, 20, 9, 10, false},
		{"behind the end, one unit", 10, 20, 20, 21, false},
		{"from 0 on", 0, 1, 0, 4000, true},
		{"below 0", -20, -10, -11, 0, true},
		{"far", math.MinInt, math.MaxInt, 0, 1, true},
		{"far ends", math.MinInt, math.MinInt + 1, math.MaxInt - 1, math.MaxInt, false},
		{"far ends that touch", math.MinInt, 0, 0, math.MaxInt, false},
		{"far ends upon one another", math.MinInt, 1, 0, math.MaxInt, true},
		{"no units, within", 5, 5, 0, 10, true},
		{"no units, at its beginning", 5, 5, 5, 10, false},
		{"no units, at its end", 10, 10, 5, 10, false},
		{"no units twice", 5, 5, 5, 5, false},
		{"ends ahead of its beginning", 8, 2, 0, 10, true},
		{"ends ahead of its beginning, round the other one", 8, 2, 3, 7, false},
	} {
		v := api.Window{Kind: api.WFree, Start: c.start, End: c.end, Repeat: 1}
		w := api.Window{Kind: api.WFree, Start: c.from, End: c.to, Repeat: 1}
		meetIs(t, c.what, two(1, v, w), 0, 1, c.want)
		meetIs(t, c.what+", turned", two(1, w, v), 0, 1, c.want)
		v.Repeat, w.Repeat, w.Cycle = 2, 2, 1
		meetIs(t, c.what+", unlike cycles", two(8, v, w), 0, 1, false)
		for _, kind := range []int{api.WExclusive, api.WArbitrating, 0, math.MaxInt} {
			v.Kind, w.Cycle = kind, 0
			meetIs(t, c.what+", whatever kind", two(8, v, w), 0, 1, c.want)
		}
	}
	v := api.Window{Start: 5, End: 5, Repeat: 1}
	meetIs(t, "no units, with itself", two(1, v, v), 0, 0, false)
}

// modelTogether: the first eight cycles of which each one comes, gone through from its Cycle on.
func modelTogether(cycles int, v, w api.Window) bool {
	var count [8]int
	for _, one := range []api.Window{v, w} {
		if one.Cycle < 0 || one.Repeat < 1 {
			return false
		}
		for now := one.Cycle; now < 8; now += min(one.Repeat, 8) {
			count[now]++
		}
	}
	for now, n := range count {
		if now < cycles && n == 2 {
			return true
		}
	}
	return false
}

func TestMeetCycles(t *testing.T) {
	numbers := []int{math.MinInt, -8, -1, 0, 1, 2, 3, 4, 5, 6, 7, 8, 9, 16, 1 << 32, math.MaxInt}
	v, w := api.Window{Start: 1, End: 3}, api.Window{Start: 2, End: 4}
	for _, cycles := range numbers {
		for _, v.Cycle = range numbers {
			for _, v.Repeat = range numbers {
				for _, w.Cycle = range []int{-1, 0, 1, 5, 7, 8, math.MaxInt} {
					for _, w.Repeat = range []int{-1, 0, 1, 2, 3, 8, math.MaxInt} {
						what := fmt.Sprintf("%d cycles, %d by %d, %d by %d", cycles, v.Cycle, v.Repeat, w.Cycle, w.Repeat)
						meetIs(t, what, two(cycles, v, w), 0, 1, modelTogether(cycles, v, w))
					}
				}
			}
		}
	}
}

func TestMeetWritten(t *testing.T) {
	at := func(cycle, repeat int) api.Window { return api.Window{Start: 1, End: 9, Cycle: cycle, Repeat: repeat} }
	for _, c := range []struct {
		what   string
		cycles int
		v, w   api.Window
		want   bool
	}{
		{"in the only cycle", 1, at(0, 1), at(0, 1), true},
		{"no cycles", 0, at(0, 1), at(0, 1), false},
		{"cycles below 0", -1, at(0, 1), at(0, 1), false},
		{"unlike cycles", 2, at(0, 2), at(1, 2), false},
		{"one in all", 2, at(0, 1), at(1, 2), true},
		{"half and a quarter", 4, at(1, 2), at(3, 4), true},
		{"half and another quarter", 4, at(1, 2), at(2, 4), false},
		{"in the last of 8", 8, at(7, 8), at(3, 4), true},
		{"in the last of 8, of 7 cycles", 7, at(7, 8), at(3, 4), false},
		{"in the last of 8, of many", math.MaxInt, at(7, 8), at(3, 4), true},
		{"behind the 8th, of many", math.MaxInt, at(8, 8), at(0, 1), false},
		{"behind the 8th, of 9", 9, at(8, 1), at(8, 1), false},
		{"with a period of 3", 8, at(0, 3), at(6, 8), true},
		{"never again", 8, at(5, 100), at(5, math.MaxInt), true},
		{"never", 8, at(0, 0), at(0, 1), false},
		{"never, below 0", 8, at(0, -1), at(0, 1), false},
		{"from below 0 on", 8, at(-1, 1), at(0, 1), false},
	} {
		meetIs(t, c.what, two(c.cycles, c.v, c.w), 0, 1, c.want)
		self := modelTogether(c.cycles, c.v, c.v)
		meetIs(t, c.what+", with itself", two(c.cycles, c.v, c.w), 0, 0, self)
	}
}

// TestMeetPlaces: of many windows, more than a matrix may have, each two.
func TestMeetPlaces(t *testing.T) {
	m := api.Matrix{Cycles: 2}
	for i := range 40 {
		m.Windows = append(m.Windows, api.Window{Start: i, End: i + 3, Cycle: i % 2, Repeat: 2})
	}
	for a := range m.Windows {
		for b := range m.Windows {
			far := a - b
			meetIs(t, "many", m, a, b, far == 0 || far == 2 || far == -2)
		}
	}
}

func TestCheckPasses(t *testing.T) {
	checkIs(t, "an ordinary one", plain(), 0, fine)
	checkIs(t, "a full one", full(), 0, fine)
	bare := api.Matrix{Level: 1, Nodes: 1, Cycles: 1, Length: 11, Enable: 1, Unit: 64, Masters: []int{0}}
	checkIs(t, "the least", bare, 0, fine)
	m := plain()
	m.Windows, m.Messages = []api.Window{}, []api.Message{}
	checkIs(t, "empty lists", m, 0, fine)
	m = plain()
	m.Windows[1].Cycle, m.Windows[2] = 0, api.Window{Kind: api.WArbitrating, Start: 80, End: 150, Cycle: 1, Repeat: 2}
	checkIs(t, "two windows upon one another in unlike cycles", m, 0, fine)
}

func TestCheckLength(t *testing.T) {
	for unit := 1; unit <= mostUnit; unit++ {
		for _, enable := range []int{1, 2, mostEnable} {
			m := plain()
			m.Windows = nil
			m.Unit, m.Enable = unit, enable
			step := modelUnits(unit, longest) + enable
			what := fmt.Sprintf("Unit %d, Enable %d", unit, enable)
			for _, c := range []struct {
				length int
				e      api.Errno
			}{{1, badLength}, {step - 1, badLength}, {step, fine}, {step + 1, fine}, {4000, fine}} {
				m.Length = c.length
				checkIs(t, fmt.Sprintf("%s, Length %d", what, c.length), m, 0, c.e)
			}
		}
	}
}

func TestCheckWho(t *testing.T) {
	for nodes := 1; nodes <= mostNodes; nodes++ {
		for at := range mostMasters {
			m := plain()
			m.Nodes, m.Messages, m.Windows = mostNodes, nil, nil
			m.Masters = []int{0, 1, 2, 3}[:at+1]
			m.Nodes = max(nodes, at+1)
			checkIs(t, "masters that are nodes", m, 0, fine)
			m.Masters[at] = m.Nodes - 1
			checkIs(t, "a master that is the last node", m, 0, fine)
			for _, who := range []int{m.Nodes, m.Nodes + 1, mostName - 1, mostName} {
				m.Masters[at] = who
				checkIs(t, fmt.Sprintf("of %d nodes master %d", m.Nodes, who), m, at, badWho)
			}
		}
		for at := range mostMessages {
			m := full()
			m.Nodes, m.Masters = nodes, []int{0}
			for i := range m.Messages {
				m.Messages[i].Owner = 0
			}
			checkIs(t, "owners that are nodes", m, 0, fine)
			m.Messages[at].Owner = nodes - 1
			checkIs(t, "an owner that is the last node", m, 0, fine)
			for _, who := range []int{nodes, nodes + 1, mostName - 1, mostName} {
				m.Messages[at].Owner = who
				checkIs(t, fmt.Sprintf("of %d nodes owner %d", nodes, who), m, at, badWho)
			}
		}
	}
}

func TestCheckMastersTwice(t *testing.T) {
	for at := 1; at < mostMasters; at++ {
		for ahead := range at {
			m := full()
			m.Masters[at] = m.Masters[ahead]
			checkIs(t, fmt.Sprintf("masters %d and %d", ahead, at), m, at, twice)
		}
	}
	m := full()
	m.Masters = []int{4, 4, 4, 4}
	checkIs(t, "all alike", m, 1, twice)
	m.Masters = []int{1, 2, 2, 1}
	checkIs(t, "two pairs", m, 2, twice)
	m.Masters = []int{1, 2}
	m.Messages[0].Owner, m.Messages[1].Owner = 1, 1
	checkIs(t, "owners twice, owners that are masters", m, 0, fine)
}

func TestCheckIDsTwice(t *testing.T) {
	for at := 1; at < mostMessages; at++ {
		for ahead := range at {
			m := full()
			m.Messages[at].ID = m.Messages[ahead].ID
			checkIs(t, fmt.Sprintf("messages %d and %d", ahead, at), m, at, twice)
		}
	}
	for at := range mostMessages {
		for _, ref := range []uint32{0, 8, 1000, 2032, 2040} {
			for id := uint32(0); id < idEnd; id++ {
				if id+20 < ref || id > ref+20 {
					continue
				}
				m := full()
				m.Ref = ref
				for i := range m.Messages { // far from every Ref
					m.Messages[i].ID = uint32(500 + i)
				}
				m.Messages[at].ID = id
				want, place := fine, 0
				if id >= ref && id < ref+8 {
					want, place = twice, at
				}
				checkIs(t, fmt.Sprintf("Ref %d, message %d has %d", ref, at, id), m, place, want)
			}
		}
	}
	m := full()
	m.Messages[5].ID, m.Messages[4].ID = m.Messages[3].ID, m.Ref+7
	checkIs(t, "a beat's ahead of one twice", m, 4, twice)
	m = full()
	m.Messages[4].ID, m.Messages[5].ID = m.Messages[3].ID, m.Ref
	checkIs(t, "one twice ahead of a beat's", m, 4, twice)
}

func TestCheckNone(t *testing.T) {
	for at := range mostWindows {
		for count := 0; count <= mostMessages; count++ {
			for _, msg := range []int{0, count - 1, count, count + 1, mostName} {
				for _, event := range []bool{false, true} {
					if msg < 0 {
						continue
					}
					m := full()
					for i := range m.Windows {
						m.Windows[i].Kind, m.Windows[i].Msg = i%2+2, 0
					}
					m.Messages = m.Messages[:count]
					for i := range m.Messages {
						m.Messages[i].Event = event == (i == msg)
					}
					m.Windows[at].Kind, m.Windows[at].Msg = api.WExclusive, msg
					place, want := 0, fine
					if msg >= count || event {
						place, want = at, noMessage
					}
					checkIs(t, fmt.Sprintf("window %d, message %d of %d, event %v", at, msg, count, event), m, place, want)
				}
			}
		}
	}
	m := full()
	for i := range m.Windows {
		m.Windows[i].Kind, m.Windows[i].Msg = i%2+2, 0
	}
	m.Messages = nil
	checkIs(t, "no exclusive window, no message", m, 0, fine)
	m = full()
	for i := range m.Windows {
		m.Windows[i].Kind, m.Windows[i].Msg = api.WExclusive, 3
	}
	checkIs(t, "many windows of one message", m, 0, fine)
}

func TestCheckRoom(t *testing.T) {
	for kind := api.WExclusive; kind <= api.WFree; kind++ {
		for at := range 3 {
			for start := 1; start < 2*fullStep; start++ {
				for long := 1; long < 2*fullStep; long++ {
					m := full()
					m.Windows = []api.Window{{Kind: kind, Start: start, End: start + long, Repeat: 1}}
					for i := range at {
						m.Windows = slices.Insert(m.Windows, 0, api.Window{Kind: api.WFree, Start: 100 + i, End: 101 + i, Repeat: 1})
					}
					place, want := 0, fine
					if start < fullStep || kind != api.WFree && long < fullStep {
						place, want = at, noRoom
					}
					checkIs(t, fmt.Sprintf("kind %d, place %d, from %d on %d", kind, at, start, long), m, place, want)
				}
			}
		}
	}
	m := full()
	m.Windows = []api.Window{{Kind: api.WFree, Start: 0, End: 1, Repeat: 1}}
	checkIs(t, "from 0 on", m, 0, noRoom)
	m.Windows = []api.Window{{Kind: api.WFree, Start: 399, End: 400, Repeat: 1}}
	checkIs(t, "the last unit", m, 0, fine)
	m.Windows = []api.Window{{Kind: api.WExclusive, Start: 388, End: 400, Repeat: 1}}
	checkIs(t, "to the cycle's end", m, 0, fine)
	m.Windows[0].Start++
	checkIs(t, "to the cycle's end, a unit shorter", m, 0, noRoom)
}

func TestCheckOverlap(t *testing.T) {
	for at := 1; at < mostWindows; at++ {
		for ahead := range at {
			for _, far := range []int{-fullStep, -fullStep + 1, 0, fullStep - 1, fullStep} {
				m := full()
				for i := range m.Windows {
					m.Windows[i].Start, m.Windows[i].End = 13+20*i, 13+20*i+fullStep
				}
				m.Windows[ahead].Start, m.Windows[ahead].End = 350, 350+fullStep
				m.Windows[at].Start = 350 + far
				m.Windows[at].End = m.Windows[at].Start + fullStep
				what := fmt.Sprintf("windows %d and %d, %d apart", ahead, at, far)
				if far == -fullStep || far == fullStep {
					checkIs(t, what, m, 0, fine)
					continue
				}
				checkIs(t, what, m, at, overlap)
				m.Windows[ahead].Repeat, m.Windows[at].Repeat, m.Windows[at].Cycle = 2, 2, 1
				checkIs(t, what+", unlike cycles", m, 0, fine)
				m.Windows[at].Repeat, m.Windows[at].Cycle = 8, 6
				checkIs(t, what+", one cycle together", m, at, overlap)
				m.Windows[at].Cycle = 7
				checkIs(t, what+", none together", m, 0, fine)
			}
		}
	}
}

// TestCheckCycles: two windows upon one another, of every Cycle and Repeat.
func TestCheckCycles(t *testing.T) {
	for _, cycles := range []int{1, 2, 4, 8} {
		m := plain()
		m.Cycles = cycles
		for repeat := 1; repeat <= cycles; repeat *= 2 {
			for cycle := range repeat {
				for other := 1; other <= cycles; other *= 2 {
					for second := range other {
						m.Windows = []api.Window{
							{Kind: api.WArbitrating, Start: 50, End: 100, Cycle: cycle, Repeat: repeat},
							{Kind: api.WFree, Start: 70, End: 71, Cycle: second, Repeat: other},
						}
						place, want := 0, fine
						if cycle%min(repeat, other) == second%min(repeat, other) {
							place, want = 1, overlap
						}
						checkIs(t, fmt.Sprintf("%d cycles, %d by %d, %d by %d", cycles, cycle, repeat, second, other), m, place, want)
					}
				}
			}
		}
	}
}

// harm makes one fault of full; two of them that touch the same thing aren't done at once.
type harm struct {
	what, touches string
	does          func(m *api.Matrix)
	fault         fault
}

func harms() []harm {
	out := []harm{
		{"Level 3", "Level", func(m *api.Matrix) { m.Level = 3 }, fault{part: partMatrix, e: noMatrix}},
		{"Ref 1001", "Ref", func(m *api.Matrix) { m.Ref = 1001 }, fault{part: partMatrix, e: noMatrix}},
		{"Unit 1", "Unit", func(m *api.Matrix) { m.Unit = 1 }, fault{part: partLength, e: badLength}},
	}
	add := func(what, touches string, at int, does func(m *api.Matrix), part, step int, e api.Errno) {
		of := fmt.Sprint(" ", at)
		out = append(out, harm{what + of, touches + of, does, fault{part, at, step, e}})
	}
	was := full()
	for at := range mostMasters {
		add("no node is master", "master", at, func(m *api.Matrix) { m.Masters[at] = mostNodes }, partMasterWho, 0, badWho)
		if at > 0 {
			add("twice is master", "master", at, func(m *api.Matrix) { m.Masters[at] = was.Masters[0] }, partMasterTwice, 0, twice)
		}
	}
	for at := range mostMessages {
		add("no node is owner", "owner", at, func(m *api.Matrix) { m.Messages[at].Owner = mostNodes }, partOwnerWho, 0, badWho)
		add("a beat's ID", "ID", at, func(m *api.Matrix) { m.Messages[at].ID = 1003 }, partMessageTwice, 0, twice)
		if at > 0 {
			add("another one's ID", "ID", at, func(m *api.Matrix) { m.Messages[at].ID = was.Messages[0].ID }, partMessageTwice, 0, twice)
		}
	}
	for at := range mostWindows {
		exclusive := func(msg int) func(m *api.Matrix) {
			return func(m *api.Matrix) { m.Windows[at].Kind, m.Windows[at].Msg = api.WExclusive, msg }
		}
		add("no message", "message", at, exclusive(mostMessages), partWindow, stepNone, noMessage)
		add("an event", "message", at, exclusive(10), partWindow, stepNone, noMessage)
		add("too early", "start", at, func(m *api.Matrix) { m.Windows[at].Start = fullStep - 1 }, partWindow, stepRoom, noRoom)
		if at > 0 {
			add("upon the first one", "start", at, func(m *api.Matrix) { m.Windows[at].Start = was.Windows[0].Start }, partWindow, stepOverlap, overlap)
			add("upon the one ahead", "start", at, func(m *api.Matrix) { m.Windows[at].Start = was.Windows[at-1].End - 1 }, partWindow, stepOverlap, overlap)
		}
		if was.Windows[at].Kind != api.WFree { // behind what moves its Start
			add("too short", "end", at, func(m *api.Matrix) { m.Windows[at].End = m.Windows[at].Start + fullStep - 1 }, partWindow, stepRoom, noRoom)
		}
	}
	return out
}

// TestCheckEach: each fault alone, in each place of its list.
func TestCheckEach(t *testing.T) {
	for _, h := range harms() {
		m := full()
		h.does(&m)
		checkIs(t, h.what, m, h.fault.at, h.fault.e)
	}
}

// TestCheckTwo: each two faults at once: the one that comes first in the order is told, with its place.
func TestCheckTwo(t *testing.T) {
	list := harms()
	for i, one := range list {
		for _, other := range list[i+1:] {
			if one.touches == other.touches {
				continue
			}
			m := full()
			one.does(&m)
			other.does(&m)
			want := one.fault
			if other.fault.order() < want.order() {
				want = other.fault
			}
			at, e := Check(m)
			if at != want.at || e != want.e {
				t.Errorf("P14.2: %s, %s: Check: %d, %v, want %d, %v", one.what, other.what, at, e, want.at, want.e)
			}
		}
	}
}

// TestCheckMany: as many faults at once as one likes, some taken away again.
func TestCheckMany(t *testing.T) {
	list := harms()
	random := rand.New(rand.NewSource(14))
	for range 3000 {
		m := full()
		for range 1 + random.Intn(6) {
			list[3+random.Intn(len(list)-3)].does(&m)
		}
		at, e := modelCheck(m)
		checkIs(t, "many faults", m, at, e)
	}
}

func pick(random *rand.Rand, from ...int) int { return from[random.Intn(len(from))] }

// anyMatrix: most of them are matrices, some of which pass.
func anyMatrix(random *rand.Rand) api.Matrix {
	m := api.Matrix{
		Level: 1, Nodes: 1 + random.Intn(8), Cycles: pick(random, 1, 2, 4, 8), Length: 150 + random.Intn(100),
		Enable: 1 + random.Intn(3), Unit: pick(random, 1, 16, 33, 47, 64), Ref: uint32(8 * random.Intn(3)),
	}
	for range 1 + random.Intn(2) {
		m.Masters = append(m.Masters, random.Intn(m.Nodes+random.Intn(2)))
	}
	for range random.Intn(4) {
		m.Messages = append(m.Messages, api.Message{ID: uint32(random.Intn(60)), Owner: random.Intn(m.Nodes + random.Intn(2)), Event: random.Intn(4) == 0})
	}
	for range random.Intn(5) {
		w := api.Window{Kind: 1 + random.Intn(3), Start: 10 + random.Intn(m.Length-20), Repeat: pick(random, 1, 2, 4, 8)}
		w.Repeat = min(w.Repeat, m.Cycles)
		w.End = min(m.Length, w.Start+1+random.Intn(60))
		w.Cycle = random.Intn(w.Repeat)
		if w.Kind == api.WExclusive {
			w.Msg = random.Intn(len(m.Messages) + 1)
		}
		m.Windows = append(m.Windows, w)
	}
	return m
}

func TestAny(t *testing.T) {
	random := rand.New(rand.NewSource(141))
	told := map[api.Errno]int{}
	for range 20000 {
		m := anyMatrix(random)
		at, e := modelCheck(m)
		checkIs(t, "any", m, at, e)
		told[e]++
		if !matrix.Is(m) {
			continue
		}
		for a, v := range m.Windows {
			for b, w := range m.Windows[:a+1] {
				meetIs(t, "any", m, a, b, shares(paint(m, v), paint(m, w)))
			}
		}
	}
	for _, e := range []api.Errno{fine, badLength, badWho, twice, overlap, noRoom, noMessage} {
		if told[e] < 50 {
			t.Errorf("of %v there are but %d", e, told[e])
		}
	}
}

// TestSpareRoom: what lies behind the lists is neither read nor changed.
func TestSpareRoom(t *testing.T) {
	whole := full()
	whole.Masters[2], whole.Masters[3] = mostName, mostName
	whole.Messages[6].ID, whole.Messages[7].Owner = whole.Ref, mostName
	whole.Windows[3].Msg, whole.Windows[7] = 3, whole.Windows[0]
	was := all(whole)
	m := whole
	m.Masters, m.Messages, m.Windows = m.Masters[:2], m.Messages[:6], m.Windows[:6]
	checkIs(t, "spare room", m, 0, fine)
	stepIs(t, "spare room", m, fullStep)
	meetIs(t, "spare room", m, 0, 7, false)
	if all(whole) != was {
		t.Error("P14.2: the room behind the lists was changed")
	}
}
