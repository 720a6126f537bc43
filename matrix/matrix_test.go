package matrix

import (
	"fmt"
	"math"
	"math/big"
	"math/rand"
	"slices"
	"strings"
	"testing"

	"ostinato/api"
	"ostinato/frame"
)

// The limits of the document, written out.
const (
	mostNodes    = 8
	mostLength   = 4000
	mostEnable   = 16
	mostUnit     = 64
	mostInit     = 8000
	mostMasters  = 4
	mostMessages = 12
	mostWindows  = 16
	mostData     = 8
	mostName     = 99 // of masters, owners, a window's message
	idEnd        = 2048
)

// far: numbers beyond everything, some of which would be right ones if but their low bits were looked at.
var far = []int{math.MinInt, math.MinInt + 1, math.MinInt + 8, -1 << 32, -1<<32 + 1, -65536, -256, 16384 + 2, 65536 + 2, 1 << 31, 1 << 32, 1<<32 + 2, 1<<62 + 2, math.MaxInt - 1, math.MaxInt}

// plain: a matrix that is one, with something in every field, no two numbers of one kind alike.
func plain() api.Matrix {
	return api.Matrix{
		Level: 2, Nodes: 5, Cycles: 4, Length: 900, Enable: 7, Unit: 32, Init: 120, Ref: 24,
		Masters:  []int{3, 0, 4},
		Messages: []api.Message{{ID: 300, Owner: 1}, {ID: 77, Owner: 2, Event: true}, {ID: 1999, Owner: 4}, {ID: 5, Owner: 0, Event: true}},
		Windows: []api.Window{
			{Kind: api.WExclusive, Start: 100, End: 220, Cycle: 1, Repeat: 2, Msg: 2},
			{Kind: api.WArbitrating, Start: 230, End: 500, Cycle: 3, Repeat: 4},
			{Kind: api.WFree, Start: 600, End: 900, Repeat: 1},
			{Kind: api.WExclusive, Start: 500, End: 599, Repeat: 1},
		},
	}
}

// least: the bounds below in every field.
func least() api.Matrix {
	return api.Matrix{Level: 1, Nodes: 1, Cycles: 1, Length: 1, Enable: 1, Unit: 1, Masters: []int{0}}
}

// most: the bounds above in every field and list.
func most() api.Matrix {
	m := api.Matrix{Level: 2, Nodes: mostNodes, Cycles: 8, Length: mostLength, Enable: mostEnable, Unit: mostUnit, Init: mostInit, Ref: 2040}
	m.Masters = slices.Repeat([]int{mostName}, mostMasters)
	m.Messages = slices.Repeat([]api.Message{{ID: idEnd - 1, Owner: mostName, Event: true}}, mostMessages)
	m.Windows = slices.Repeat([]api.Window{{Kind: api.WExclusive, Start: mostLength - 1, End: mostLength, Cycle: 7, Repeat: 8, Msg: mostName}}, mostWindows)
	return m
}

// deep is a copy that owes nothing to Copy; its lists have no spare room.
func deep(m api.Matrix) api.Matrix {
	m.Masters = slices.Clip(append([]int(nil), m.Masters...))
	m.Messages = slices.Clip(append([]api.Message(nil), m.Messages...))
	m.Windows = slices.Clip(append([]api.Window(nil), m.Windows...))
	return m
}

// text tells all of a matrix; of two it is the same if and only if they are alike in all.
func text(m api.Matrix) string {
	return fmt.Sprint(m.Level, m.Nodes, m.Cycles, m.Length, m.Enable, m.Unit, m.Init, m.Ref, "|", m.Masters, "|", m.Messages, "|", m.Windows)
}

func oneOf(n int, these ...int) bool { return slices.Contains(these, n) }

// modelWindow: the chapter's words, one by one.
func modelWindow(m api.Matrix, w api.Window) bool {
	switch {
	case !oneOf(w.Kind, 1, 2, 3):
		return false
	case w.Start < 0, w.Start > m.Length, w.End < 0, w.End > m.Length, w.Start >= w.End:
		return false
	case !oneOf(w.Repeat, 1, 2, 4, 8), w.Repeat > m.Cycles:
		return false
	case w.Cycle < 0, w.Cycle >= w.Repeat:
		return false
	case w.Msg < 0, w.Msg > mostName, w.Msg != 0 && w.Kind != 1:
		return false
	}
	return true
}

func modelIs(m api.Matrix) bool {
	switch {
	case !oneOf(m.Level, 1, 2), m.Nodes < 1, m.Nodes > mostNodes, !oneOf(m.Cycles, 1, 2, 4, 8):
		return false
	case m.Length < 1, m.Length > mostLength, m.Enable < 1, m.Enable > mostEnable, m.Unit < 1, m.Unit > mostUnit, m.Init < 0, m.Init > mostInit:
		return false
	case m.Ref%8 != 0, m.Ref >= idEnd:
		return false
	case len(m.Masters) < 1, len(m.Masters) > mostMasters, len(m.Messages) > mostMessages, len(m.Windows) > mostWindows:
		return false
	}
	for _, who := range m.Masters {
		if who < 0 || who > mostName {
			return false
		}
	}
	for _, g := range m.Messages {
		if g.ID >= idEnd || g.Owner < 0 || g.Owner > mostName {
			return false
		}
	}
	for _, w := range m.Windows {
		if !modelWindow(m, w) {
			return false
		}
	}
	return true
}

func isIs(t *testing.T, what string, m api.Matrix, want bool) {
	t.Helper()
	was := text(m)
	if got := Is(m); got != want {
		t.Errorf("P12.1: %s: Is: %v, want %v", what, got, want)
	}
	if text(m) != was {
		t.Errorf("P12.1: %s: Is changed it", what)
	}
}

func TestIsOrdinary(t *testing.T) {
	isIs(t, "an ordinary one", plain(), true)
	isIs(t, "the least", least(), true)
	isIs(t, "the most", most(), true)
	isIs(t, "nothing", api.Matrix{}, false)
	for what, m := range map[string]api.Matrix{"an ordinary one": plain(), "the least": least(), "the most": most(), "nothing": {}} {
		if Is(m) != modelIs(m) {
			t.Errorf("P12.1: %s: the chapter's words answer otherwise", what)
		}
	}
}

// field: a number of a matrix that may be asked for and set.
type field struct {
	name string
	of   func(m *api.Matrix) *int
	from int
	to   int
}

var fields = []field{
	{"Level", func(m *api.Matrix) *int { return &m.Level }, 1, 2},
	{"Nodes", func(m *api.Matrix) *int { return &m.Nodes }, 1, mostNodes},
	{"Length", func(m *api.Matrix) *int { return &m.Length }, 1, mostLength},
	{"Enable", func(m *api.Matrix) *int { return &m.Enable }, 1, mostEnable},
	{"Unit", func(m *api.Matrix) *int { return &m.Unit }, 1, mostUnit},
	{"Init", func(m *api.Matrix) *int { return &m.Init }, 0, mostInit},
	{"the first master", func(m *api.Matrix) *int { return &m.Masters[0] }, 0, mostName},
	{"the last master", func(m *api.Matrix) *int { return &m.Masters[len(m.Masters)-1] }, 0, mostName},
	{"the first owner", func(m *api.Matrix) *int { return &m.Messages[0].Owner }, 0, mostName},
	{"the last owner", func(m *api.Matrix) *int { return &m.Messages[len(m.Messages)-1].Owner }, 0, mostName},
}

// full is plain without windows: they would hold Length from below.
func full() api.Matrix {
	m := plain()
	m.Windows = nil
	return m
}

func TestIsBounds(t *testing.T) {
	for _, f := range fields {
		try := func(n int, want bool) {
			t.Helper()
			m := full()
			*f.of(&m) = n
			isIs(t, fmt.Sprintf("%s %d", f.name, n), m, want)
		}
		for _, n := range []int{f.from, f.from + 1, f.to - 1, f.to} {
			try(n, true)
		}
		for _, n := range append([]int{f.from - 1, f.to + 1, f.from - 100, f.to + 100, -f.to}, far...) {
			try(n, false)
		}
	}
}

func TestIsCounts(t *testing.T) {
	right := []int{1, 2, 4, 8}
	numbers := append([]int{}, far...)
	for n := -20; n <= 70; n++ {
		numbers = append(numbers, n)
	}
	for _, n := range numbers {
		m := full()
		m.Cycles = n
		isIs(t, fmt.Sprintf("Cycles %d", n), m, slices.Contains(right, n))
		m = most()
		m.Windows = []api.Window{{Kind: api.WFree, End: 1, Repeat: n}}
		isIs(t, fmt.Sprintf("Repeat %d", n), m, slices.Contains(right, n))
	}
	for _, c := range []struct {
		cycles, cycle, repeat int
		want                  bool
	}{
		{1, 0, 1, true}, {1, 0, 2, false}, {1, 0, 8, false}, {1, 1, 1, false},
		{2, 1, 2, true}, {2, 2, 2, false}, {2, 0, 4, false}, {2, 1, 1, false},
		{4, 3, 4, true}, {4, 4, 4, false}, {4, 0, 8, false}, {4, 1, 2, true}, {4, 2, 2, false}, {4, 3, 2, false},
		{8, 7, 8, true}, {8, 8, 8, false}, {8, 0, 16, false}, {8, -1, 8, false}, {8, 4, 8, true}, {8, 4, 4, false},
		{8, math.MinInt, 8, false}, {8, math.MaxInt, 8, false}, {8, 0, math.MinInt, false}, {8, -1, 0, false}, {8, 0, 0, false},
	} {
		m := plain()
		m.Cycles = c.cycles
		m.Windows = []api.Window{{Kind: api.WExclusive, Start: 1, End: 2, Cycle: c.cycle, Repeat: c.repeat}}
		isIs(t, fmt.Sprintf("Cycles %d, Cycle %d, Repeat %d", c.cycles, c.cycle, c.repeat), m, c.want)
	}
	// and all of them together
	for _, cycles := range right {
		for repeat := -2; repeat <= 17; repeat++ {
			for cycle := -2; cycle <= 17; cycle++ {
				m := plain()
				m.Cycles = cycles
				m.Windows = []api.Window{{Kind: api.WFree, Start: 1, End: 2, Cycle: cycle, Repeat: repeat}}
				want := slices.Contains(right, repeat) && repeat <= cycles && cycle >= 0 && cycle <= repeat-1
				isIs(t, fmt.Sprintf("Cycles %d, Cycle %d, Repeat %d", cycles, cycle, repeat), m, want)
			}
		}
	}
}

func TestIsIDs(t *testing.T) {
	words := []uint32{1 << 16, 1<<16 + 8, 1 << 29, 1<<29 - 8, 1 << 31, math.MaxUint32 - 7, math.MaxUint32}
	for n := range uint32(5000) {
		words = append(words, n)
	}
	for _, n := range words {
		m := plain()
		m.Ref = n
		isIs(t, fmt.Sprintf("Ref %d", n), m, n < idEnd && n%8 == 0)
		for place := range m.Messages {
			m = plain()
			m.Messages[place].ID = n
			isIs(t, fmt.Sprintf("ID %d at %d", n, place), m, n < idEnd)
		}
	}
}

func TestIsLists(t *testing.T) {
	for n := range 40 {
		m := plain()
		m.Masters = make([]int, n)
		isIs(t, fmt.Sprintf("%d masters", n), m, n >= 1 && n <= mostMasters)
		m = full()
		m.Messages = make([]api.Message, n)
		isIs(t, fmt.Sprintf("%d messages", n), m, n <= mostMessages)
		m = plain()
		m.Windows = slices.Repeat([]api.Window{{Kind: api.WFree, End: 1, Repeat: 1}}, n)
		isIs(t, fmt.Sprintf("%d windows", n), m, n <= mostWindows)
	}
	m := plain()
	m.Masters = nil
	isIs(t, "masters nil", m, false)
	m = plain()
	m.Messages, m.Windows = nil, nil
	isIs(t, "messages and windows nil", m, true)
	m.Messages, m.Windows = []api.Message{}, []api.Window{}
	isIs(t, "messages and windows empty", m, true)
	m = plain()
	m.Masters = []int{2, 2, 2, 2}
	isIs(t, "the same master again", m, true)
	m.Masters = []int{50}
	isIs(t, "a master that is no node", m, true)
	m = plain()
	m.Messages[2] = m.Messages[0]
	isIs(t, "the same message again", m, true)
	m = plain()
	m.Messages = nil
	isIs(t, "a window's message that there isn't", m, true)
	m = plain()
	m.Windows[1] = m.Windows[0]
	isIs(t, "the same window again", m, true)
}

// TestIsPlaces: a fault is seen wherever in its list it stands.
func TestIsPlaces(t *testing.T) {
	for place := range mostMasters {
		for _, n := range append([]int{-1, 100}, far...) {
			m := most()
			m.Masters[place] = n
			isIs(t, fmt.Sprintf("master %d at %d", n, place), m, false)
		}
	}
	for place := range mostMessages {
		for _, n := range append([]int{-1, 100}, far...) {
			m := most()
			m.Messages[place].Owner = n
			isIs(t, fmt.Sprintf("owner %d at %d", n, place), m, false)
		}
		m := most()
		m.Messages[place].ID = idEnd
		isIs(t, fmt.Sprintf("an ID at %d", place), m, false)
	}
	for place := range mostWindows {
		for i, w := range []api.Window{
			{}, {Kind: 1, Start: 5, End: 5, Repeat: 1}, {Kind: 4, End: 5, Repeat: 1}, {Kind: 2, End: 5, Repeat: 1, Msg: 1}, {Kind: 1, End: mostLength + 1, Repeat: 1},
		} {
			m := most()
			m.Windows[place] = w
			isIs(t, fmt.Sprintf("wrong window %d at %d", i, place), m, false)
		}
	}
}

func TestIsWindows(t *testing.T) {
	with := func(length int, w api.Window) api.Matrix {
		m := plain()
		m.Length = length
		m.Windows = []api.Window{w}
		return m
	}
	for _, length := range []int{1, 2, 900, mostLength} {
		times := append([]int{-2, -1, 0, 1, 2, 3, length / 2, length - 1, length, length + 1, length + 2, mostLength, mostLength + 1}, far...)
		for _, start := range times {
			for _, end := range times {
				want := start >= 0 && end <= length && start < end
				w := api.Window{Kind: api.WFree, Start: start, End: end, Repeat: 1}
				isIs(t, fmt.Sprintf("Length %d, from %d to %d", length, start, end), with(length, w), want)
			}
		}
	}
	numbers := append([]int{-100, -1, 0, 1, 2, 50, 98, 99, 100, 101}, far...)
	kinds := append([]int{-1, 0, 1, 2, 3, 4, 5}, far...)
	for _, kind := range kinds {
		for _, msg := range numbers {
			want := kind == 1 && msg >= 0 && msg <= mostName || (kind == 2 || kind == 3) && msg == 0
			w := api.Window{Kind: kind, Start: 1, End: 2, Repeat: 1, Msg: msg}
			isIs(t, fmt.Sprintf("Kind %d, Msg %d", kind, msg), with(10, w), want)
		}
	}
}

// near is mostly a right number, sometimes one beside the bounds or far beyond them.
func near(r *rand.Rand, from, to int) int {
	switch r.Intn(40) {
	case 0:
		return from - 1
	case 1:
		return to + 1
	case 2:
		return far[r.Intn(len(far))]
	case 3, 4:
		return from
	case 5, 6:
		return to
	}
	return from + r.Intn(to-from+1)
}

func anyCount(r *rand.Rand, to int) int {
	if r.Intn(30) == 0 {
		return r.Intn(20) - 2
	}
	n := 1
	for r.Intn(2) == 0 && 2*n <= to {
		n *= 2
	}
	return n
}

func anyWindow(r *rand.Rand, m api.Matrix) api.Window {
	held := max(2, min(m.Length, mostLength))
	start := near(r, 0, held-1)
	w := api.Window{Kind: near(r, 1, 3), Start: start, End: near(r, min(max(start, 0), held-1)+1, held), Repeat: anyCount(r, m.Cycles)}
	w.Cycle = near(r, 0, max(0, w.Repeat-1))
	if w.Kind == 1 || r.Intn(50) == 0 {
		w.Msg = near(r, 0, mostName)
	}
	return w
}

func anyMatrix(r *rand.Rand) api.Matrix {
	m := api.Matrix{Level: near(r, 1, 2), Nodes: near(r, 1, 8), Cycles: anyCount(r, 8), Length: near(r, 1, 4000), Enable: near(r, 1, 16), Unit: near(r, 1, 64), Init: near(r, 0, 8000)}
	m.Ref = uint32(8 * near(r, 0, 255))
	if r.Intn(40) == 0 {
		m.Ref++
	}
	for range r.Intn(4) + r.Intn(2) + r.Intn(10)/9 {
		m.Masters = append(m.Masters, near(r, 0, mostName))
	}
	for range r.Intn(5) * r.Intn(4) {
		m.Messages = append(m.Messages, api.Message{ID: uint32(near(r, 0, idEnd-1)), Owner: near(r, 0, mostName), Event: r.Intn(2) == 0})
	}
	for range r.Intn(6) * r.Intn(4) {
		m.Windows = append(m.Windows, anyWindow(r, m))
	}
	return m
}

func TestIsAny(t *testing.T) {
	r := rand.New(rand.NewSource(12))
	seen := [2]int{}
	for i := range 60000 {
		m := anyMatrix(r)
		want := modelIs(m)
		if Is(m) != want {
			t.Fatalf("P12.1: matrix %d: %s: Is: %v", i, text(m), !want)
		}
		if want {
			seen[1]++
		} else {
			seen[0]++
		}
	}
	if seen[0] < 1000 || seen[1] < 1000 {
		t.Fatalf("the matrices are too much alike: %v", seen)
	}
}

func sameIs(t *testing.T, what string, a, b api.Matrix, want bool) {
	t.Helper()
	wasA, wasB := text(a), text(b)
	if got := Same(a, b); got != want {
		t.Errorf("P12.1: %s: Same: %v, want %v", what, got, want)
	}
	if got := Same(b, a); got != want {
		t.Errorf("P12.1: %s, turned round: Same: %v, want %v", what, got, want)
	}
	if text(a) != wasA || text(b) != wasB {
		t.Errorf("P12.1: %s: Same changed something", what)
	}
}

// change: a matrix made another one at one place.
type change struct {
	what string
	does func(m *api.Matrix)
}

// changes: one of every field and of every place of every list.
func changes(m api.Matrix) []change {
	out := []change{
		{"Level", func(m *api.Matrix) { m.Level++ }},
		{"Nodes", func(m *api.Matrix) { m.Nodes++ }},
		{"Cycles", func(m *api.Matrix) { m.Cycles *= 2; m.Cycles++ }},
		{"Length", func(m *api.Matrix) { m.Length-- }},
		{"Enable", func(m *api.Matrix) { m.Enable++ }},
		{"Unit", func(m *api.Matrix) { m.Unit-- }},
		{"Init", func(m *api.Matrix) { m.Init++ }},
		{"Ref", func(m *api.Matrix) { m.Ref += 8 }},
		{"Level, far", func(m *api.Matrix) { m.Level += 1 << 32 }},
		{"Length, far", func(m *api.Matrix) { m.Length = math.MinInt }},
		{"Ref, far", func(m *api.Matrix) { m.Ref += 1 << 16 }},
		{"Level and Nodes the other way round", func(m *api.Matrix) { m.Level, m.Nodes = m.Nodes, m.Level+100 }},
		{"a master more", func(m *api.Matrix) { m.Masters = append(m.Masters, 0) }},
		{"a message more", func(m *api.Matrix) { m.Messages = append(m.Messages, api.Message{}) }},
		{"a window more", func(m *api.Matrix) { m.Windows = append(m.Windows, api.Window{}) }},
	}
	for i := range m.Masters {
		out = append(out,
			change{fmt.Sprintf("master %d", i), func(m *api.Matrix) { m.Masters[i] += 100 }},
			change{fmt.Sprintf("masters up to %d", i), func(m *api.Matrix) { m.Masters = m.Masters[:i] }})
	}
	for i := range m.Messages {
		out = append(out,
			change{fmt.Sprintf("ID %d", i), func(m *api.Matrix) { m.Messages[i].ID++ }},
			change{fmt.Sprintf("owner %d", i), func(m *api.Matrix) { m.Messages[i].Owner-- }},
			change{fmt.Sprintf("event %d", i), func(m *api.Matrix) { m.Messages[i].Event = !m.Messages[i].Event }},
			change{fmt.Sprintf("messages up to %d", i), func(m *api.Matrix) { m.Messages = m.Messages[:i] }})
	}
	for i := range m.Windows {
		for j, of := range []func(w *api.Window) *int{
			func(w *api.Window) *int { return &w.Kind },
			func(w *api.Window) *int { return &w.Start },
			func(w *api.Window) *int { return &w.End },
			func(w *api.Window) *int { return &w.Cycle },
			func(w *api.Window) *int { return &w.Repeat },
			func(w *api.Window) *int { return &w.Msg },
		} {
			out = append(out, change{fmt.Sprintf("window %d, number %d", i, j), func(m *api.Matrix) { *of(&m.Windows[i])++ }})
		}
		out = append(out, change{fmt.Sprintf("windows up to %d", i), func(m *api.Matrix) { m.Windows = m.Windows[:i] }})
	}
	return out
}

func TestSameChanged(t *testing.T) {
	for name, fresh := range map[string]func() api.Matrix{"plain": plain, "least": least, "most": most} {
		sameIs(t, name, fresh(), fresh(), true)
		for _, c := range changes(fresh()) {
			m := fresh()
			c.does(&m)
			sameIs(t, name+": "+c.what, m, fresh(), false)
			again := fresh()
			c.does(&again)
			sameIs(t, name+": "+c.what+", of both", m, again, true)
		}
	}
}

func TestSameLists(t *testing.T) {
	empty := plain()
	empty.Masters, empty.Messages, empty.Windows = []int{}, []api.Message{}, []api.Window{}
	none := plain()
	none.Masters, none.Messages, none.Windows = nil, nil, nil
	sameIs(t, "nil and empty lists", none, empty, true)
	sameIs(t, "nil lists", none, none, true)
	sameIs(t, "nothing", api.Matrix{}, api.Matrix{}, true)
	sameIs(t, "nothing, with empty lists", api.Matrix{}, api.Matrix{Masters: []int{}, Messages: []api.Message{}, Windows: []api.Window{}}, true)
	sameIs(t, "nothing and an ordinary one", api.Matrix{}, plain(), false)
	sameIs(t, "no lists", none, plain(), false)
	sameIs(t, "zeros are something", api.Matrix{}, api.Matrix{Masters: []int{0}}, false)
	sameIs(t, "a message of zeros is something", api.Matrix{}, api.Matrix{Messages: []api.Message{{}}}, false)
	sameIs(t, "a window of zeros is something", api.Matrix{}, api.Matrix{Windows: []api.Window{{}}}, false)

	turned := plain()
	slices.Reverse(turned.Masters)
	sameIs(t, "masters turned round", turned, plain(), false)
	turned = plain()
	slices.Reverse(turned.Messages)
	sameIs(t, "messages turned round", turned, plain(), false)
	turned = plain()
	slices.Reverse(turned.Windows)
	sameIs(t, "windows turned round", turned, plain(), false)

	// spare room isn't part of a list
	roomy := plain()
	roomy.Masters = append(roomy.Masters, 9)[:len(roomy.Masters)]
	roomy.Messages = append(roomy.Messages, api.Message{ID: 9})[:len(roomy.Messages)]
	roomy.Windows = append(roomy.Windows, api.Window{Kind: 9})[:len(roomy.Windows)]
	sameIs(t, "something in the spare room", roomy, plain(), true)

	// lists beyond all limits are lists, too
	long := plain()
	long.Masters = slices.Repeat([]int{7}, 5000)
	long.Windows = slices.Repeat(long.Windows, 500)
	other := deep(long)
	sameIs(t, "long lists", long, other, true)
	other.Masters[4999]++
	sameIs(t, "long lists, the last master", long, other, false)
	other = deep(long)
	other.Windows[len(other.Windows)-1].Msg++
	sameIs(t, "long lists, the last window", long, other, false)
}

func TestSameAny(t *testing.T) {
	r := rand.New(rand.NewSource(121))
	for i := range 20000 {
		a := anyMatrix(r)
		b := deep(a)
		if r.Intn(4) > 0 {
			all := changes(b)
			all[r.Intn(len(all))].does(&b)
		}
		if want := text(a) == text(b); Same(a, b) != want || Same(b, a) != want {
			t.Fatalf("P12.1: %d: %s and %s: Same: %v", i, text(a), text(b), !want)
		}
	}
}

func findIs(t *testing.T, what string, m api.Matrix, f api.Frame, want int) {
	t.Helper()
	was := text(m)
	if got := Find(m, f); got != want {
		t.Errorf("P12.2: %s: Find: %d, want %d", what, got, want)
	}
	if text(m) != was {
		t.Errorf("P12.2: %s: Find changed it", what)
	}
}

func TestFind(t *testing.T) {
	m := plain()
	for msg, g := range m.Messages {
		findIs(t, "its ID", m, api.Frame{ID: g.ID}, msg)
		findIs(t, "with bytes", m, api.Frame{ID: g.ID, Data: "12345678"}, msg)
		findIs(t, "with RTR", m, api.Frame{ID: g.ID, RTR: true}, -1)
		findIs(t, "with Ext", m, api.Frame{ID: g.ID, Ext: true}, -1)
		findIs(t, "with both", m, api.Frame{ID: g.ID, Ext: true, RTR: true}, -1)
		findIs(t, "one more", m, api.Frame{ID: g.ID + 1}, -1)
		findIs(t, "one less", m, api.Frame{ID: g.ID - 1}, -1)
		findIs(t, "its low bits alone", m, api.Frame{ID: g.ID + 1<<16}, -1)
		findIs(t, "its low eleven bits alone", m, api.Frame{ID: g.ID + 1<<11}, -1)
	}
	findIs(t, "the beat", m, api.Frame{ID: m.Ref}, -1)
	findIs(t, "the greatest ID", m, api.Frame{ID: math.MaxUint32}, -1)
	findIs(t, "zeros", m, api.Frame{}, -1)
	findIs(t, "no messages", api.Matrix{}, api.Frame{}, -1)
	findIs(t, "empty messages", api.Matrix{Messages: []api.Message{}}, api.Frame{ID: 1}, -1)

	twice := plain()
	twice.Messages = append(twice.Messages, twice.Messages...)
	twice.Messages[4].Owner = 3
	for msg, g := range m.Messages {
		findIs(t, "of two the first", twice, api.Frame{ID: g.ID}, msg)
	}
	twice.Messages[0].ID = 1
	findIs(t, "the second, when the first is another one", twice, api.Frame{ID: 300}, 4)

	zero := api.Matrix{Messages: []api.Message{{ID: 1}, {}, {ID: 2047}, {}}}
	findIs(t, "the ID 0", zero, api.Frame{}, 1)
	findIs(t, "the ID 0 with Ext", zero, api.Frame{Ext: true}, -1)
	findIs(t, "the ID 0 with RTR", zero, api.Frame{RTR: true}, -1)
	findIs(t, "the ID 2047", zero, api.Frame{ID: 2047}, 2)

	// whether it is a matrix, or a frame, isn't asked
	wild := api.Matrix{Messages: []api.Message{{ID: math.MaxUint32}, {ID: 3000}}}
	findIs(t, "an ID that can't be", wild, api.Frame{ID: 3000}, 1)
	findIs(t, "the greatest ID of all", wild, api.Frame{ID: math.MaxUint32}, 0)
	findIs(t, "too many bytes", m, api.Frame{ID: 77, Data: "123456789"}, 1)
}

func frameIs(t *testing.T, what string, m api.Matrix, msg int, data string, want api.Frame, ok bool) {
	t.Helper()
	was := text(m)
	f, got := Frame(m, msg, data)
	if got != ok || f != want {
		t.Errorf("P12.2: %s: Frame: %v, %v, want %v, %v", what, f, got, want, ok)
	}
	if text(m) != was {
		t.Errorf("P12.2: %s: Frame changed it", what)
	}
}

func TestFrame(t *testing.T) {
	m := plain()
	last := len(m.Messages) - 1
	for msg, g := range m.Messages {
		for long := range 20 {
			data := strings.Repeat("\x00\xff", long)[:long]
			if long <= mostData {
				frameIs(t, fmt.Sprintf("%d bytes", long), m, msg, data, api.Frame{ID: g.ID, Data: data}, true)
			} else {
				frameIs(t, fmt.Sprintf("%d bytes", long), m, msg, data, api.Frame{}, false)
			}
		}
		frameIs(t, "bytes, not signs", m, msg, "ääää", api.Frame{ID: g.ID, Data: "ääää"}, true)
		frameIs(t, "a byte too many, five signs", m, msg, "ääää.", api.Frame{}, false)
	}
	frameIs(t, "the last one", m, last, "", api.Frame{ID: m.Messages[last].ID}, true)
	for _, msg := range append([]int{-1, -2, last + 1, last + 2, 99, 100}, far...) {
		frameIs(t, fmt.Sprintf("message %d", msg), m, msg, "", api.Frame{}, false)
		frameIs(t, fmt.Sprintf("message %d, with bytes", msg), m, msg, "123", api.Frame{}, false)
		frameIs(t, fmt.Sprintf("message %d, too many bytes", msg), m, msg, "123456789", api.Frame{}, false)
		frameIs(t, fmt.Sprintf("no messages, %d", msg), api.Matrix{}, msg, "", api.Frame{}, false)
	}
	frameIs(t, "no messages, 0", api.Matrix{}, 0, "", api.Frame{}, false)
	frameIs(t, "a message of zeros", api.Matrix{Messages: []api.Message{{}}}, 0, "", api.Frame{}, true)
	frameIs(t, "spare room", api.Matrix{Messages: m.Messages[:1]}, 1, "", api.Frame{}, false)
	frameIs(t, "very many bytes", m, 0, strings.Repeat("x", 1<<20), api.Frame{}, false)
	frameIs(t, "an ID that can't be", api.Matrix{Messages: []api.Message{{ID: 5000}}}, 0, "x", api.Frame{ID: 5000, Data: "x"}, true)
}

// TestFramesAreFound: of a matrix each frame is one that layer 3 knows, and is told from all the others.
func TestFramesAreFound(t *testing.T) {
	r := rand.New(rand.NewSource(122))
	for range 5000 {
		m := anyMatrix(r)
		if !Is(m) {
			continue
		}
		for msg, g := range m.Messages {
			f, ok := Frame(m, msg, "12345678"[:r.Intn(9)])
			if !ok || !frame.Is(f) {
				t.Fatalf("P12.2: %s: Frame of %d: %v, %v", text(m), msg, f, ok)
			}
			first := slices.IndexFunc(m.Messages, func(one api.Message) bool { return one.ID == g.ID })
			if got := Find(m, f); got != first {
				t.Fatalf("P12.2: %s: Find of the frame of %d: %d, want %d", text(m), msg, got, first)
			}
		}
	}
}

func TestRank(t *testing.T) {
	for i, c := range []struct {
		masters []int
		who     int
		want    int
	}{
		{[]int{3, 0, 4}, 3, 0}, {[]int{3, 0, 4}, 0, 1}, {[]int{3, 0, 4}, 4, 2}, {[]int{3, 0, 4}, 1, -1}, {[]int{3, 0, 4}, 2, -1},
		{[]int{3, 0, 4}, -1, -1}, {[]int{3, 0, 4}, 5, -1}, {[]int{3, 0, 4}, math.MaxInt, -1}, {[]int{3, 0, 4}, math.MinInt, -1}, {[]int{3, 0, 4}, 1 << 32, -1}, {[]int{3, 0, 4}, 256 + 3, -1},
		{[]int{1, 1, 1, 1}, 1, 0}, {[]int{0, 1, 0, 1}, 1, 1}, {[]int{0, 1, 0, 1}, 0, 0}, {[]int{2, 5, 5, 2}, 5, 1},
		{nil, 0, -1}, {[]int{}, 0, -1}, {nil, -1, -1}, {[]int{0}, 0, 0},
		{[]int{7, 6, 5, 4, 3, 2, 1}, 1, 6}, {[]int{-5, math.MinInt}, math.MinInt, 1}, {[]int{1, 2, 3}[:2], 3, -1},
	} {
		m := plain()
		m.Masters = c.masters
		was := text(m)
		if got := Rank(m, c.who); got != c.want {
			t.Errorf("P12.2: row %d: Rank: %d, want %d", i, got, c.want)
		}
		if text(m) != was {
			t.Errorf("P12.2: row %d: Rank changed it", i)
		}
	}
}

func comesIs(t *testing.T, cycle, repeat, now int, want bool) {
	t.Helper()
	if got := Comes(cycle, repeat, now); got != want {
		t.Errorf("P12.2: Comes(%d, %d, %d): %v, want %v", cycle, repeat, now, got, want)
	}
}

func TestComes(t *testing.T) {
	comesIs(t, 1, 2, 3, true) // the chapter's example
	for _, c := range []struct {
		cycle, repeat, now int
		want               bool
	}{
		{0, 1, 0, true}, {0, 1, 1, true}, {0, 2, 1, false}, {0, 2, 2, true}, {1, 2, 1, true}, {1, 2, 2, false}, {1, 2, 0, false},
		{3, 4, 7, true}, {3, 4, 3, true}, {3, 4, 2, false}, {3, 4, -1, false}, {7, 8, 7, true}, {7, 8, 15, true}, {7, 8, 14, false},
		{5, 1, 4, false}, {5, 1, 5, true}, {5, 3, 11, true}, {5, 3, 10, false}, {2, 100, 2, true}, {2, 100, 102, true},
		{0, 0, 0, false}, {1, 0, 1, false}, {1, -1, 1, false}, {1, -1, 2, false}, {0, -2, 2, false}, {0, math.MinInt, 0, false},
		{-1, 1, -1, false}, {-1, 1, 0, false}, {-1, 2, 1, false}, {-8, 8, 0, false}, {math.MinInt, 1, math.MaxInt, false}, {math.MinInt, 1, math.MinInt, false}, {math.MinInt, 2, 0, false},
		{0, math.MaxInt, 0, true}, {0, math.MaxInt, math.MaxInt, true}, {0, math.MaxInt, math.MaxInt - 1, false}, {1, math.MaxInt, math.MaxInt, false},
		{math.MaxInt, 1, math.MaxInt, true}, {math.MaxInt, math.MaxInt, math.MaxInt, true}, {math.MaxInt, 1, math.MaxInt - 1, false}, {math.MaxInt, 1, math.MinInt, false}, {1, 2, math.MaxInt, true}, {0, 2, math.MaxInt, false}, {0, 1, math.MinInt, false},
	} {
		comesIs(t, c.cycle, c.repeat, c.now, c.want)
	}
	for cycle := -3; cycle < 12; cycle++ {
		for repeat := -3; repeat < 12; repeat++ {
			in := map[int]bool{}
			for at := cycle; cycle >= 0 && repeat > 0 && at < 60; at += repeat {
				in[at] = true
			}
			for now := -12; now < 60; now++ {
				comesIs(t, cycle, repeat, now, in[now])
			}
		}
	}
}

// TestComesAny: reckoned with numbers that have room for every difference.
func TestComesAny(t *testing.T) {
	ends := []int{math.MinInt, math.MinInt + 1, -1 << 62, -9, -2, -1, 0, 1, 2, 3, 8, 9, 1 << 62, math.MaxInt - 8, math.MaxInt - 1, math.MaxInt}
	for _, cycle := range ends {
		for _, repeat := range ends {
			for _, now := range ends {
				want := false
				if repeat > 0 && cycle >= 0 {
					above := new(big.Int).Sub(big.NewInt(int64(now)), big.NewInt(int64(cycle)))
					want = above.Sign() >= 0 && new(big.Int).Mod(above, big.NewInt(int64(repeat))).Sign() == 0
				}
				comesIs(t, cycle, repeat, now, want)
			}
		}
	}
}

func copyIs(t *testing.T, what string, m api.Matrix) api.Matrix {
	t.Helper()
	was := text(m)
	k := Copy(m)
	if text(k) != was || text(m) != was {
		t.Fatalf("P12.2: %s: the copy is %s, and of %s there is %s", what, text(k), was, text(m))
	}
	if !Same(k, m) {
		t.Fatalf("P12.1: %s: a copy isn't the same", what)
	}
	return k
}

func TestCopyAlike(t *testing.T) {
	copyIs(t, "plain", plain())
	copyIs(t, "least", least())
	copyIs(t, "most", most())
	copyIs(t, "nothing", api.Matrix{})
	copyIs(t, "empty lists", api.Matrix{Masters: []int{}, Messages: []api.Message{}, Windows: []api.Window{}})
	copyIs(t, "one of a kind that can't be", api.Matrix{Level: math.MinInt, Init: -1, Ref: math.MaxUint32, Masters: far, Windows: []api.Window{{Msg: -1}}})
	r := rand.New(rand.NewSource(123))
	for i := range 3000 {
		copyIs(t, fmt.Sprint("matrix ", i), anyMatrix(r))
	}
}

// TestCopyApart: whatever is done with one, the other one stays as it was.
func TestCopyApart(t *testing.T) {
	for name, fresh := range map[string]func() api.Matrix{"plain": plain, "least": least, "most": most} {
		was := text(fresh())
		for _, c := range changes(fresh()) {
			m := fresh()
			k := copyIs(t, name, m)
			other := copyIs(t, name, m)
			c.does(&k)
			if text(m) != was || text(other) != was {
				t.Errorf("P12.2: %s: %s of a copy is to be seen elsewhere", name, c.what)
			}
			m = fresh()
			k = copyIs(t, name, m)
			other = copyIs(t, name, k)
			c.does(&m)
			if text(k) != was || text(other) != was {
				t.Errorf("P12.2: %s: %s is to be seen in its copy", name, c.what)
			}
		}
	}
}

// roomy has lists with spare room in which something stands.
func roomy(masters, messages, windows int) api.Matrix {
	m := plain()
	m.Masters = slices.Repeat([]int{11}, 8)[:masters]
	m.Messages = slices.Repeat([]api.Message{{ID: 11}}, 8)[:messages]
	m.Windows = slices.Repeat([]api.Window{{Kind: 11}}, 8)[:windows]
	return m
}

// behind tells a matrix with all that stands in its spare room.
func behind(m api.Matrix) string {
	m.Masters = m.Masters[:cap(m.Masters)]
	m.Messages = m.Messages[:cap(m.Messages)]
	m.Windows = m.Windows[:cap(m.Windows)]
	return text(m)
}

func grow(m *api.Matrix, n int) {
	m.Masters = append(m.Masters, n)
	m.Messages = append(m.Messages, api.Message{ID: uint32(n)})
	m.Windows = append(m.Windows, api.Window{Msg: n})
}

func TestCopyAppended(t *testing.T) {
	for long := range 9 {
		m := roomy(long, (long+3)%9, (long+6)%9)
		whole := behind(m)
		one, two := copyIs(t, "roomy", m), copyIs(t, "roomy", m)
		if behind(m) != whole {
			t.Fatalf("P12.2: Copy changed the spare room")
		}
		second := behind(two)
		grow(&one, 77)
		if behind(m) != whole || behind(two) != second {
			t.Fatalf("P12.2: %d: what is appended to a copy is to be seen elsewhere", long)
		}
		first := text(one)
		grow(&two, 78)
		grow(&m, 79)
		if text(one) != first {
			t.Fatalf("P12.2: %d: what is appended elsewhere is to be seen in a copy: %s, want %s", long, text(one), first)
		}
		last := []int{one.Masters[long], two.Masters[long], m.Masters[long]}
		if !slices.Equal(last, []int{77, 78, 79}) {
			t.Fatalf("P12.2: %d: appended: %v", long, last)
		}
	}
}

// TestNothingIsTouched: no call writes into what it is handed, its spare room included.
func TestNothingIsTouched(t *testing.T) {
	m := roomy(2, 3, 4)
	whole := behind(m)
	Is(m)
	Same(m, plain())
	Same(plain(), m)
	Find(m, api.Frame{ID: 11})
	Frame(m, 2, "x")
	Rank(m, 11)
	Copy(m)
	if behind(m) != whole {
		t.Error("P12.1, P12.2: a call wrote into what it was handed")
	}
}
