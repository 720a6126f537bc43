package refmsg

import (
	"encoding/hex"
	"fmt"
	"math"
	"math/rand"
	"slices"
	"strings"
	"sync"
	"testing"

	"ostinato/api"
	"ostinato/check"
	"ostinato/code"
	"ostinato/frame"
	"ostinato/matrix"
)

// The limits of the document, written out.
const (
	mostData     = 8
	mostMasters  = 4
	mostCycles   = 8
	mostMessages = 12
	idEnd        = 2048
	lastRef      = 2040
	refEnd       = 8 // identifiers that a Ref stands for
)

// far: numbers that are no place and no cycle; some of them would be one if but their low bits were looked at.
var far = []int{math.MinInt, math.MinInt + 1, math.MinInt + 2, math.MinInt32, -1 << 32, -1<<32 + 1, -65536, -65535, -256, -255, -64, -63, -8, -7, -2, -1, 8, 9, 16, 64, 65, 255, 256, 256 + 1, 256 + 2, 2048, 2049, 65536, 65536 + 1, math.MaxInt32, 1 << 31, math.MaxUint32, 1 << 32, 1<<32 + 1, 1<<32 + 2, math.MaxInt - 1, math.MaxInt}

// globals: each byte alone, both, none, and what shows their order.
var globals = []uint16{0, 1, 0x7f, 0x80, 0xff, 0x100, 0x101, 0x1234, 0x3412, 0x7fff, 0x8000, 0xff00, 0xfffe, 0xffff}

var refs = []uint32{0, 8, 64, 256, 1016, 1024, 1112, lastRef}

// of has masters that beat in these cycles, messages and windows; check's Check passes it.
func of(level, masters, cycles int, ref uint32) api.Matrix {
	return api.Matrix{
		Level: level, Nodes: 4, Cycles: cycles, Length: 900, Enable: 3, Unit: 16, Init: 50, Ref: ref,
		Masters:  []int{2, 0, 3, 1}[:masters:masters],
		Messages: []api.Message{{ID: (ref + refEnd) % idEnd, Owner: 1}, {ID: (ref + idEnd - 1) % idEnd, Owner: 2, Event: true}, {ID: ref ^ 512, Owner: 3}},
		Windows:  []api.Window{{Kind: api.WExclusive, Start: 100, End: 220, Repeat: 1, Msg: 2}, {Kind: api.WArbitrating, Start: 230, End: 500, Repeat: 1}},
	}
}

// bare has no message and no window.
func bare(level, masters, cycles int, ref uint32) api.Matrix {
	return api.Matrix{Level: level, Nodes: 1, Cycles: cycles, Length: 1, Enable: 1, Unit: 1, Ref: ref, Masters: make([]int, masters)}
}

// each calls what is asked for with matrices of both levels, of each number of masters and of cycles.
func each(ask func(m api.Matrix, what string)) {
	for level := 1; level <= 2; level++ {
		for masters := 1; masters <= mostMasters; masters++ {
			for _, cycles := range []int{1, 2, 4, 8} {
				for _, ref := range refs {
					what := fmt.Sprintf("Level %d, masters %d, Cycles %d, Ref %d", level, masters, cycles, ref)
					ask(of(level, masters, cycles, ref), what)
					ask(bare(level, masters, cycles, ref), what+", bare")
				}
			}
		}
	}
}

// want: the frame by the chapter's words, by digits of its numbers.
func want(t *testing.T, m api.Matrix, b api.Beat) api.Frame {
	t.Helper()
	digits := fmt.Sprintf("%02x", b.Cycle)
	if m.Level == 2 {
		digits += fmt.Sprintf("%02x%04x", map[bool]int{true: 1}[b.Disc], b.Global)
	}
	data, err := hex.DecodeString(digits)
	if err != nil {
		t.Fatal(err)
	}
	return api.Frame{ID: m.Ref + uint32(b.Rank), Data: string(data)}
}

// model: what Parse answers, asked from place to place; of a matrix that Is.
func model(m api.Matrix, f api.Frame) (api.Beat, bool) {
	for rank := range m.Masters {
		for cycle := range m.Cycles {
			head := string(rune(cycle))
			if f.Ext || f.RTR || f.ID != m.Ref+uint32(rank) || !strings.HasPrefix(f.Data, head) {
				continue
			}
			b, rest := api.Beat{Rank: rank, Cycle: cycle}, f.Data[1:]
			if m.Level == 1 && rest == "" {
				return b, true
			}
			if m.Level == 2 && len(rest) == 3 && (rest[0] == 0 || rest[0] == 1) {
				b.Disc = rest[0] == 1
				b.Global = uint16(rest[1])*256 + uint16(rest[2])
				return b, true
			}
		}
	}
	return api.Beat{}, false
}

// builds holds Build to a frame, and Parse of it to the beat; asked twice, for nothing is kept.
func builds(t *testing.T, what string, m api.Matrix, b api.Beat, f api.Frame) {
	t.Helper()
	told := b
	if m.Level == 1 {
		told.Global, told.Disc = 0, false
	}
	for range 2 {
		if got, ok := Build(m, b.Rank, b.Cycle, b.Global, b.Disc); got != f || !ok {
			t.Fatalf("%s: Build of %v: %#v, %t, want %#v", what, b, got, ok, f)
		}
		if got, ok := Parse(m, f); got != told || !ok {
			t.Fatalf("%s: Parse of %#v: %v, %t, want %v", what, f, got, ok, told)
		}
	}
}

// builds nothing: no frame beside false.
func refuses(t *testing.T, what string, m api.Matrix, b api.Beat) {
	t.Helper()
	if got, ok := Build(m, b.Rank, b.Cycle, b.Global, b.Disc); ok || got != (api.Frame{}) {
		t.Fatalf("%s: Build of %v: %#v, %t", what, b, got, ok)
	}
}

// isNone: no beat beside false.
func isNone(t *testing.T, what string, m api.Matrix, f api.Frame) {
	t.Helper()
	if got, ok := Parse(m, f); ok || got != (api.Beat{}) {
		t.Fatalf("%s: Parse of %#v: %v, %t", what, f, got, ok)
	}
}

func TestLimits(t *testing.T) {
	if api.MaxData != mostData || api.MaxMasters != mostMasters || api.MaxCycles != mostCycles || api.MaxMessages != mostMessages {
		t.Fatal("P21.1: other limits than the tests have")
	}
	each(func(m api.Matrix, what string) {
		if !matrix.Is(m) {
			t.Fatalf("P21.1: %s: the tests' matrix is none", what)
		}
	})
}

// The chapter's example: of Level 1 one byte.
func TestExample(t *testing.T) {
	f, ok := Build(of(1, 1, 1, 64), 0, 0, 0, false)
	if !ok || len(f.Data) != 1 {
		t.Fatalf("P21.1: the example: %#v, %t", f, ok)
	}
}

func TestBuildRows(t *testing.T) {
	for i, x := range []struct {
		level, masters, cycles int
		ref                    uint32
		b                      api.Beat
		f                      api.Frame
	}{
		{1, 1, 1, 0, api.Beat{}, api.Frame{ID: 0, Data: "\x00"}},
		{1, 1, 2, 0, api.Beat{Cycle: 1}, api.Frame{ID: 0, Data: "\x01"}},
		{1, 3, 4, 64, api.Beat{Rank: 2, Cycle: 3}, api.Frame{ID: 66, Data: "\x03"}},
		{1, 3, 4, 64, api.Beat{Rank: 2, Cycle: 3, Global: 0x1234, Disc: true}, api.Frame{ID: 66, Data: "\x03"}},
		{1, 4, 8, 2040, api.Beat{Rank: 3, Cycle: 7, Global: 0xffff, Disc: true}, api.Frame{ID: 2043, Data: "\x07"}},
		{2, 1, 1, 0, api.Beat{}, api.Frame{ID: 0, Data: "\x00\x00\x00\x00"}},
		{2, 1, 1, 0, api.Beat{Disc: true}, api.Frame{ID: 0, Data: "\x00\x01\x00\x00"}},
		{2, 2, 2, 8, api.Beat{Rank: 1, Cycle: 1, Global: 1}, api.Frame{ID: 9, Data: "\x01\x00\x00\x01"}},
		{2, 2, 2, 8, api.Beat{Rank: 1, Cycle: 1, Global: 0x100}, api.Frame{ID: 9, Data: "\x01\x00\x01\x00"}},
		{2, 3, 4, 1112, api.Beat{Rank: 1, Cycle: 2, Global: 0x1234}, api.Frame{ID: 1113, Data: "\x02\x00\x12\x34"}},
		{2, 3, 4, 1112, api.Beat{Rank: 1, Cycle: 2, Global: 0x1234, Disc: true}, api.Frame{ID: 1113, Data: "\x02\x01\x12\x34"}},
		{2, 4, 8, 2040, api.Beat{Rank: 3, Cycle: 7, Global: 0xffff, Disc: true}, api.Frame{ID: 2043, Data: "\x07\x01\xff\xff"}},
		{2, 4, 8, 2040, api.Beat{Rank: 0, Cycle: 5, Global: 0xff00}, api.Frame{ID: 2040, Data: "\x05\x00\xff\x00"}},
	} {
		what := fmt.Sprint("P21.1: row ", i)
		builds(t, what, of(x.level, x.masters, x.cycles, x.ref), x.b, x.f)
		builds(t, what+", bare", bare(x.level, x.masters, x.cycles, x.ref), x.b, x.f)
	}
}

// Each place, each cycle, global's edges, with disc and without.
func TestEachBeat(t *testing.T) {
	each(func(m api.Matrix, what string) {
		for rank := range m.Masters {
			for cycle := range m.Cycles {
				for _, global := range globals {
					for _, disc := range []bool{false, true} {
						b := api.Beat{Rank: rank, Cycle: cycle, Global: global, Disc: disc}
						builds(t, "P21.1: "+what, m, b, want(t, m, b))
					}
				}
			}
		}
	})
}

func TestEachGlobal(t *testing.T) {
	one, two := of(1, 2, 4, 64), of(2, 2, 4, 64)
	for n := range 1 << 16 {
		b := api.Beat{Rank: 1, Cycle: 2, Global: uint16(n), Disc: n%3 == 0}
		builds(t, "P21.1: each global", two, b, want(t, two, b))
		builds(t, "P21.1: each global, Level 1", one, b, api.Frame{ID: 65, Data: "\x02"})
	}
}

// The last place in Masters and one behind it, the last cycle and one behind it, below 0, and far off.
func TestRankAndCycleAtTheirEnds(t *testing.T) {
	each(func(m api.Matrix, what string) {
		places, cycles := len(m.Masters), m.Cycles
		last := api.Beat{Rank: places - 1, Cycle: cycles - 1, Global: 7, Disc: true}
		builds(t, "P21.1: "+what+", the last ones", m, last, want(t, m, last))
		for _, n := range append([]int{-1, places, places + 1}, far...) {
			refuses(t, "P21.1: "+what+", no such place", m, api.Beat{Rank: n, Cycle: cycles - 1, Global: 7, Disc: true})
			refuses(t, "P21.1: "+what+", no such place", m, api.Beat{Rank: n})
		}
		for _, n := range append([]int{-1, cycles, cycles + 1}, far...) {
			refuses(t, "P21.1: "+what+", no such cycle", m, api.Beat{Rank: places - 1, Cycle: n, Global: 7, Disc: true})
			refuses(t, "P21.1: "+what+", no such cycle", m, api.Beat{Cycle: n})
			for _, rank := range far {
				refuses(t, "P21.1: "+what+", neither", m, api.Beat{Rank: rank, Cycle: n})
			}
		}
	})
}

// A master's place is what counts, whoever stands there, and however often.
func TestPlacesNotNumbers(t *testing.T) {
	for _, masters := range [][]int{{5}, {99, 98}, {1, 1}, {3, 2, 1, 0}, {99, 99, 99, 99}} {
		m := of(2, 1, 4, 64)
		m.Masters = masters
		for rank := range mostMasters + 1 {
			what := fmt.Sprintf("P21.1: masters %v, rank %d", masters, rank)
			b := api.Beat{Rank: rank, Cycle: 1, Global: 9}
			if rank < len(masters) {
				builds(t, what, m, b, want(t, m, b))
				continue
			}
			refuses(t, what, m, b)
			isNone(t, what, m, want(t, m, b))
		}
	}
}

// broken: matrices that Is is false of, each for one reason.
func broken(level int) []api.Matrix {
	var list []api.Matrix
	for _, change := range []func(m *api.Matrix){
		func(m *api.Matrix) { *m = api.Matrix{} },
		func(m *api.Matrix) { m.Level = 0 },
		func(m *api.Matrix) { m.Level = 3 },
		func(m *api.Matrix) { m.Level = -1 },
		func(m *api.Matrix) { m.Level += 1 << 32 },
		func(m *api.Matrix) { m.Nodes = 0 },
		func(m *api.Matrix) { m.Nodes = 9 },
		func(m *api.Matrix) { m.Cycles = 3 },
		func(m *api.Matrix) { m.Cycles = 16 },
		func(m *api.Matrix) { m.Cycles = math.MaxInt },
		func(m *api.Matrix) { m.Length = 0; m.Windows = nil },
		func(m *api.Matrix) { m.Length = 4001 },
		func(m *api.Matrix) { m.Enable = 0 },
		func(m *api.Matrix) { m.Enable = 17 },
		func(m *api.Matrix) { m.Unit = 0 },
		func(m *api.Matrix) { m.Unit = 65 },
		func(m *api.Matrix) { m.Init = -1 },
		func(m *api.Matrix) { m.Init = 8001 },
		func(m *api.Matrix) { m.Masters = []int{0, 1, 2, 3, 0} },
		func(m *api.Matrix) { m.Masters[1] = 100 },
		func(m *api.Matrix) { m.Masters[1] = -1 },
		func(m *api.Matrix) { m.Messages = make([]api.Message, mostMessages+1) },
		func(m *api.Matrix) { m.Messages[2].ID = idEnd },
		func(m *api.Matrix) { m.Messages[2].Owner = 100 },
		func(m *api.Matrix) { m.Windows = slices.Repeat(m.Windows, 9) },
		func(m *api.Matrix) { m.Windows[1].Kind = 4 },
		func(m *api.Matrix) { m.Windows[0].End = m.Windows[0].Start },
		func(m *api.Matrix) { m.Windows[1].Msg = 1 },
	} {
		m := of(level, 2, 2, 64)
		change(&m)
		list = append(list, m)
	}
	return list
}

func TestNoMatrix(t *testing.T) {
	for level := 1; level <= 2; level++ {
		for i, m := range broken(level) {
			what := fmt.Sprintf("P21.1: Level %d, broken matrix %d", level, i)
			if matrix.Is(m) {
				t.Fatalf("%s: the tests' matrix is one", what)
			}
			refuses(t, what, m, api.Beat{})
			refuses(t, what, m, api.Beat{Rank: 1, Cycle: 1, Global: 0x1234, Disc: true})
			for _, data := range []string{"", "\x00", "\x01", "\x00\x00\x00\x00", "\x01\x01\x12\x34"} {
				isNone(t, what, m, api.Frame{ID: m.Ref, Data: data})
				isNone(t, what, m, api.Frame{ID: m.Ref + 1, Data: data})
			}
		}
	}
	for _, ref := range []uint32{1, 7, 65, 68, 71, 2047, 2048, 4096, 1 << 31, math.MaxUint32, math.MaxUint32 - 7} {
		m := of(2, 2, 2, 64)
		m.Ref = ref
		what := fmt.Sprint("P21.1: no matrix, Ref ", ref)
		for rank := range 2 {
			refuses(t, what, m, api.Beat{Rank: rank})
			isNone(t, what, m, api.Frame{ID: ref + uint32(rank), Data: "\x00\x00\x00\x00"})
		}
	}
	for _, masters := range [][]int{nil, {}} {
		m := of(2, 1, 2, 64)
		m.Masters = masters
		refuses(t, "P21.1: no masters", m, api.Beat{})
		isNone(t, "P21.1: no masters", m, api.Frame{ID: 64, Data: "\x00\x00\x00\x00"})
	}
}

func TestParseRows(t *testing.T) {
	two, one := of(2, 3, 4, 64), of(1, 3, 4, 64)
	for i, x := range []struct {
		m api.Matrix
		f api.Frame
	}{
		{two, api.Frame{}},
		{two, api.Frame{Ext: true, ID: 65, Data: "\x02\x01\x12\x34"}},
		{two, api.Frame{Ext: true, ID: 65 << 18, Data: "\x02\x01\x12\x34"}},
		{two, api.Frame{ID: 65, RTR: true, Data: "\x02\x01\x12\x34"}},
		{two, api.Frame{ID: 65, RTR: true}},
		{two, api.Frame{Ext: true, ID: 65, RTR: true}},
		{two, api.Frame{ID: 63, Data: "\x02\x01\x12\x34"}}, // one ahead of the first rank
		{two, api.Frame{ID: 67, Data: "\x02\x01\x12\x34"}}, // one behind the last one
		{two, api.Frame{ID: 71, Data: "\x02\x01\x12\x34"}},
		{two, api.Frame{ID: 72, Data: "\x02\x01\x12\x34"}},
		{two, api.Frame{ID: 0, Data: "\x02\x01\x12\x34"}},
		{two, api.Frame{ID: 1, Data: "\x02\x01\x12\x34"}},
		{two, api.Frame{ID: 65 + 2048, Data: "\x02\x01\x12\x34"}},
		{two, api.Frame{ID: 65 + 1<<31, Data: "\x02\x01\x12\x34"}},
		{two, api.Frame{ID: math.MaxUint32, Data: "\x02\x01\x12\x34"}},
		{two, api.Frame{ID: 65}},
		{two, api.Frame{ID: 65, Data: "\x02"}},
		{two, api.Frame{ID: 65, Data: "\x02\x01"}},
		{two, api.Frame{ID: 65, Data: "\x02\x01\x12"}},
		{two, api.Frame{ID: 65, Data: "\x02\x00\x00"}},
		{two, api.Frame{ID: 65, Data: "\x02\x01\x12\x34\x00"}},
		{two, api.Frame{ID: 65, Data: "\x02\x00\x00\x00\x00"}},
		{two, api.Frame{ID: 65, Data: "\x02\x01\x12\x34\x02\x01\x12\x34"}},
		{two, api.Frame{ID: 65, Data: strings.Repeat("\x00", 100000)}},
		{two, api.Frame{ID: 65, Data: "\x04\x01\x12\x34"}},
		{two, api.Frame{ID: 65, Data: "\xff\x01\x12\x34"}},
		{two, api.Frame{ID: 65, Data: "\x02\x02\x12\x34"}},
		{two, api.Frame{ID: 65, Data: "\x02\x80\x12\x34"}},
		{two, api.Frame{ID: 65, Data: "\x02\xff\x12\x34"}},
		{one, api.Frame{}},
		{one, api.Frame{Ext: true, ID: 65, Data: "\x02"}},
		{one, api.Frame{ID: 65, RTR: true, Data: "\x02"}},
		{one, api.Frame{ID: 65, RTR: true}},
		{one, api.Frame{ID: 63, Data: "\x02"}},
		{one, api.Frame{ID: 67, Data: "\x02"}},
		{one, api.Frame{ID: 65}},
		{one, api.Frame{ID: 65, Data: "\x02\x00"}},
		{one, api.Frame{ID: 65, Data: "\x02\x00\x00\x00"}},
		{one, api.Frame{ID: 65, Data: "\x02\x01\x12\x34"}},
		{one, api.Frame{ID: 65, Data: strings.Repeat("\x00", 100000)}},
		{one, api.Frame{ID: 65, Data: "\x04"}},
		{one, api.Frame{ID: 65, Data: "\x80"}},
		{one, api.Frame{ID: 65, Data: "\xff"}},
	} {
		isNone(t, fmt.Sprint("P21.1: row ", i), x.m, x.f)
	}
}

// parses holds Parse to the model, and what it takes, built again, to the same frame.
func parses(t *testing.T, what string, m api.Matrix, f api.Frame) {
	t.Helper()
	b, ok := Parse(m, f)
	wantBeat, wantOK := model(m, f)
	if b != wantBeat || ok != wantOK {
		t.Fatalf("%s: Parse of %#v: %v, %t, want %v, %t", what, f, b, ok, wantBeat, wantOK)
	}
	if again, is := Build(m, b.Rank, b.Cycle, b.Global, b.Disc); ok && (again != f || !is) {
		t.Fatalf("%s: Parse of %#v, built again: %#v, %t", what, f, again, is)
	}
}

// Around a beat's frame: any one field alone is another one.
func TestOneFieldAlone(t *testing.T) {
	each(func(m api.Matrix, what string) {
		what = "P21.1: " + what
		for rank := range m.Masters {
			b := api.Beat{Rank: rank, Cycle: m.Cycles - 1, Global: 0x1200, Disc: true}
			f := want(t, m, b)
			for _, x := range []api.Frame{{Ext: true, ID: f.ID, Data: f.Data}, {ID: f.ID, RTR: true, Data: f.Data}, {ID: f.ID, RTR: true}, {ID: f.ID}} {
				isNone(t, what, m, x)
			}
			for long := range mostData + 2 {
				parses(t, what, m, api.Frame{ID: f.ID, Data: (f.Data + "\x00\x00\x00\x00\x00\x00\x00\x00\x00")[:long]})
			}
			for at := range f.Data {
				for n := range 256 {
					data := []byte(f.Data)
					data[at] = byte(n)
					parses(t, what, m, api.Frame{ID: f.ID, Data: string(data)})
				}
			}
			for bit := range 32 {
				isNoneOrOther(t, what, m, api.Frame{ID: f.ID ^ 1<<bit, Data: f.Data}, f)
			}
		}
	})
}

// isNoneOrOther: another identifier is another master's, or nobody's.
func isNoneOrOther(t *testing.T, what string, m api.Matrix, f, was api.Frame) {
	t.Helper()
	parses(t, what, m, f)
	b, ok := Parse(m, f)
	if a, _ := Parse(m, was); ok && a.Rank == b.Rank {
		t.Fatalf("%s: %#v and %#v are both of rank %d", what, was, f, b.Rank)
	}
}

// Every identifier, beat or none.
func TestEachID(t *testing.T) {
	for _, ref := range refs {
		for level, data := range []string{1: "\x01", 2: "\x01\x00\x12\x34"} {
			if level == 0 {
				continue
			}
			m := of(level, 3, 2, ref)
			for id := range uint32(idEnd + 2*refEnd) {
				_, ok := Parse(m, api.Frame{ID: id, Data: data})
				if mine := id == ref || id == ref+1 || id == ref+2; ok != mine {
					t.Fatalf("P21.1: Level %d, Ref %d, ID %d: %t", level, ref, id, ok)
				}
			}
		}
	}
}

// No two beats have the same frame: what is told can be told from all else.
func TestUnlikeBeats(t *testing.T) {
	m := of(2, 4, 8, 64)
	seen := map[api.Frame]api.Beat{}
	for rank := range m.Masters {
		for cycle := range m.Cycles {
			for _, global := range globals {
				for _, disc := range []bool{false, true} {
					b := api.Beat{Rank: rank, Cycle: cycle, Global: global, Disc: disc}
					f, _ := Build(m, rank, cycle, global, disc)
					if other, is := seen[f]; is {
						t.Fatalf("P21.1: %v and %v: %#v", other, b, f)
					}
					seen[f] = b
				}
			}
		}
	}
}

// Any frames, some of them nearly beats.
func TestAnyFrames(t *testing.T) {
	r := rand.New(rand.NewSource(211))
	taken := 0
	for turn := range 200000 {
		m := of(1+r.Intn(2), 1+r.Intn(mostMasters), 1<<r.Intn(4), uint32(r.Intn(idEnd/refEnd)*refEnd))
		if r.Intn(20) == 0 {
			list := broken(m.Level)
			m = list[r.Intn(len(list))]
		}
		data := make([]byte, []int{0, 1, 1, 1, 2, 3, 4, 4, 4, 4, 5, 8, 9}[r.Intn(13)])
		for at := range data {
			data[at] = byte(r.Intn([]int{2, 3, 9, 256}[r.Intn(4)]))
		}
		f := api.Frame{Ext: r.Intn(20) == 0, ID: m.Ref + uint32(r.Intn(8)) - 2, RTR: r.Intn(20) == 0, Data: string(data)}
		what := fmt.Sprint("P21.1: turn ", turn)
		if !matrix.Is(m) {
			isNone(t, what, m, f)
			continue
		}
		parses(t, what, m, f)
		if _, ok := Parse(m, f); ok {
			taken++
		}
	}
	if taken < 1000 {
		t.Fatalf("P21.1: but %d of any frames were beats", taken)
	}
}

// Any beats, some of them none.
func TestAnyBeats(t *testing.T) {
	r := rand.New(rand.NewSource(212))
	for turn := range 100000 {
		m := of(1+r.Intn(2), 1+r.Intn(mostMasters), 1<<r.Intn(4), uint32(r.Intn(idEnd/refEnd)*refEnd))
		b := api.Beat{Rank: r.Intn(7) - 1, Cycle: r.Intn(11) - 1, Global: uint16(r.Intn(1 << 16)), Disc: r.Intn(2) == 0}
		what := fmt.Sprint("P21.1: turn ", turn)
		if b.Rank >= 0 && b.Rank < len(m.Masters) && b.Cycle >= 0 && b.Cycle < m.Cycles {
			builds(t, what, m, b, want(t, m, b))
		} else {
			refuses(t, what, m, b)
		}
	}
}

// A beat is a frame that goes over the wire and comes from it.
func TestBeatsOnTheWire(t *testing.T) {
	each(func(m api.Matrix, what string) {
		for rank := range m.Masters {
			f, ok := Build(m, rank, m.Cycles-1, 0xfffe, true)
			if !ok || !frame.Is(f) {
				t.Fatalf("P21.1: %s: %#v is no frame", what, f)
			}
			if came, _, e := code.Decode(code.Encode(f) + "111"); came != f || e != api.OK {
				t.Fatalf("P21.1: %s: %#v came as %#v, %d", what, f, came, e)
			}
		}
	})
}

// P21.2: of what check's Check passes no beat is a message, and no message a beat, whatever its data.
func TestNoMessage(t *testing.T) {
	for level := 1; level <= 2; level++ {
		for masters := 1; masters <= mostMasters; masters++ {
			for _, ref := range refs {
				m := of(level, masters, 4, ref)
				if _, e := check.Check(m); e != api.OK {
					t.Fatalf("P21.2: the tests' matrix can't be: %d", e)
				}
				for rank := range masters {
					f, ok := Build(m, rank, 3, 0x1234, true)
					if msg := matrix.Find(m, f); !ok || msg != -1 {
						t.Fatalf("P21.2: Level %d, Ref %d: the beat of %d is message %d", level, ref, rank, msg)
					}
				}
				for msg := range m.Messages {
					for _, data := range []string{"", "\x00", "\x03", "\x00\x00\x00\x00", "\x03\x01\x12\x34", "\x03\x01\x12\x34\x00"} {
						f, ok := matrix.Frame(m, msg, data)
						if !ok || matrix.Find(m, f) != msg {
							t.Fatalf("P21.2: message %d isn't found", msg)
						}
						isNone(t, "P21.2: a message's frame", m, f)
					}
				}
			}
		}
	}
}

// P21.2: that a message has a beat's identifier, which check's Check refuses, makes no less a beat of the beat.
func TestMessageOfThatID(t *testing.T) {
	for rank := range mostMasters {
		m := of(2, mostMasters, 4, 64)
		m.Messages[1].ID = 64 + uint32(rank)
		if _, e := check.Check(m); e != api.ErrTwice {
			t.Fatalf("P21.2: a message with a beat's identifier: %d", e)
		}
		b := api.Beat{Rank: rank, Cycle: 2, Global: 0x1234, Disc: true}
		builds(t, "P21.2: a message of that identifier", m, b, want(t, m, b))
	}
}

// What is handed in is neither changed nor kept, the spare room behind the lists included.
func TestHandedIn(t *testing.T) {
	m := of(2, 2, 4, 64)
	all := []int{2, 0, 77, 78}
	m.Masters = all[:2]
	was := matrix.Copy(m)
	f, _ := Build(m, 1, 3, 0x1234, true)
	b, _ := Parse(m, f)
	if !matrix.Same(m, was) || !slices.Equal(all, []int{2, 0, 77, 78}) {
		t.Fatalf("P21.1: what was handed in is now %v, %v", m, all)
	}
	m.Masters, m.Messages, m.Windows = []int{9}, nil, nil
	m.Ref, m.Cycles = 8, 1
	if f != (api.Frame{ID: 65, Data: "\x03\x01\x12\x34"}) || b != (api.Beat{Rank: 1, Cycle: 3, Global: 0x1234, Disc: true}) {
		t.Fatalf("P21.1: answers went with the matrix: %#v, %v", f, b)
	}
	builds(t, "P21.1: the matrix ahead of that", was, b, f)
}

func TestAtOnce(t *testing.T) {
	one, two := of(1, 2, 4, 64), of(2, 2, 4, 64)
	b := api.Beat{Rank: 1, Cycle: 3, Global: 0x1234, Disc: true}
	var calls sync.WaitGroup
	for range 4 {
		calls.Go(func() {
			for range 500 {
				f, ok := Build(one, b.Rank, b.Cycle, b.Global, b.Disc)
				g, is := Build(two, b.Rank, b.Cycle, b.Global, b.Disc)
				back, came := Parse(two, g)
				if !ok || !is || !came || f.Data != "\x03" || g.Data != "\x03\x01\x12\x34" || back != b {
					t.Error("P21.1: a call that another one changed")
					return
				}
			}
		})
	}
	calls.Wait()
}
