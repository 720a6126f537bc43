package config

import (
	"encoding/hex"
	"fmt"
	"math"
	"math/rand"
	"slices"
	"strings"
	"testing"

	"ostinato/api"
	"ostinato/matrix"
)

// The limits of the document, written out.
const (
	mostNodes    = 8
	mostLength   = 4000
	mostEnable   = 16
	mostUnit     = 64
	mostInit     = 8000
	mostMasters  = 4
	mostMessages = 12
	mostWindows  = 16
	mostName     = 99 // of masters, owners, a window's message
	idEnd        = 2048
	mostBytes    = 400
	noConfig     = api.Errno(130)
)

// Where the parts of a text stand.
const (
	headBytes    = 12
	messageBytes = 4
	windowBytes  = 8
)

// far: numbers that no matrix has; as bytes some of them would look like right ones.
var far = []int{math.MinInt, math.MinInt + 2, -1 << 32, -65536 + 2, -256 + 2, 256 * 200, 65536, 65536 + 2, 1<<32 + 2, math.MaxInt}

// plain: a matrix with something in every field, no two numbers of one kind alike, of two bytes some below 256 and some above.
func plain() api.Matrix {
	return api.Matrix{
		Level: 2, Nodes: 5, Cycles: 4, Length: 900, Enable: 7, Unit: 32, Init: 120, Ref: 1112,
		Masters:  []int{3, 0, 4},
		Messages: []api.Message{{ID: 300, Owner: 1}, {ID: 77, Owner: 2, Event: true}, {ID: 1999, Owner: 4}, {ID: 5, Owner: 0, Event: true}},
		Windows: []api.Window{
			{Kind: api.WExclusive, Start: 100, End: 220, Cycle: 1, Repeat: 2, Msg: 2},
			{Kind: api.WArbitrating, Start: 230, End: 500, Cycle: 3, Repeat: 4},
			{Kind: api.WFree, Start: 600, End: 900, Repeat: 1},
			{Kind: api.WExclusive, Start: 501, End: 599, Repeat: 1},
		},
	}
}

// least: the bounds below in every field.
func least() api.Matrix {
	return api.Matrix{Level: 1, Nodes: 1, Cycles: 1, Length: 1, Enable: 1, Unit: 1, Masters: []int{0}}
}

// most: the bounds above in every field and list.
func most() api.Matrix {
	m := api.Matrix{Level: 2, Nodes: mostNodes, Cycles: 8, Length: mostLength, Enable: mostEnable, Unit: mostUnit, Init: mostInit, Ref: 2040}
	m.Masters = slices.Repeat([]int{mostName}, mostMasters)
	m.Messages = slices.Repeat([]api.Message{{ID: idEnd - 1, Owner: mostName, Event: true}}, mostMessages)
	m.Windows = slices.Repeat([]api.Window{{Kind: api.WExclusive, Start: mostLength - 1, End: mostLength, Cycle: 7, Repeat: 8, Msg: mostName}}, mostWindows)
	return m
}

var some = []struct {
	name  string
	fresh func() api.Matrix
}{{"plain", plain}, {"least", least}, {"most", most}}

// all tells all of a matrix; of two it is the same if and only if they are alike in all.
func all(m api.Matrix) string {
	return fmt.Sprint(m.Level, m.Nodes, m.Cycles, m.Length, m.Enable, m.Unit, m.Init, m.Ref, "|", m.Masters, "|", m.Messages, "|", m.Windows)
}

// bytesOf takes hexadecimal digits, with blanks between as one likes.
func bytesOf(t *testing.T, digits string) string {
	t.Helper()
	b, err := hex.DecodeString(strings.ReplaceAll(digits, " ", ""))
	if err != nil {
		t.Fatal(err)
	}
	return string(b)
}

// modelPrint: the chapter's words by other means: digits of the numbers, made bytes at the end.
func modelPrint(t *testing.T, m api.Matrix) string {
	t.Helper()
	digits := fmt.Sprintf("4f %02x %02x %02x %04x %02x %02x %04x %04x", m.Level, m.Nodes, m.Cycles, m.Length, m.Enable, m.Unit, m.Init, m.Ref)
	digits += fmt.Sprintf("%02x", len(m.Masters))
	for _, who := range m.Masters {
		digits += fmt.Sprintf("%02x", who)
	}
	digits += fmt.Sprintf("%02x", len(m.Messages))
	for _, g := range m.Messages {
		event := map[bool]int{true: 1}[g.Event]
		digits += fmt.Sprintf("%04x %02x %02x", g.ID, g.Owner, event)
	}
	digits += fmt.Sprintf("%02x", len(m.Windows))
	for _, w := range m.Windows {
		digits += fmt.Sprintf("%02x %04x %04x %02x %02x %02x", w.Kind, w.Start, w.End, w.Cycle, w.Repeat, w.Msg)
	}
	return bytesOf(t, digits)
}

func pair(b string, at int) int { return int(b[at])*256 + int(b[at+1]) }

// modelParse goes by places: where each list begins and ends is known ahead of reading it.
func modelParse(b string) (api.Matrix, bool) {
	if len(b) < headBytes+1 || b[0] != 79 {
		return api.Matrix{}, false
	}
	m := api.Matrix{Level: int(b[1]), Nodes: int(b[2]), Cycles: int(b[3]), Length: pair(b, 4), Enable: int(b[6]), Unit: int(b[7]), Init: pair(b, 8), Ref: uint32(pair(b, 10))}
	messagesAt := headBytes + 1 + int(b[headBytes])
	if len(b) <= messagesAt {
		return api.Matrix{}, false
	}
	windowsAt := messagesAt + 1 + messageBytes*int(b[messagesAt])
	if len(b) <= windowsAt || len(b) != windowsAt+1+windowBytes*int(b[windowsAt]) {
		return api.Matrix{}, false
	}
	for _, who := range []byte(b[headBytes+1 : messagesAt]) {
		m.Masters = append(m.Masters, int(who))
	}
	for at := messagesAt + 1; at < windowsAt; at += messageBytes {
		if b[at+3] != 0 && b[at+3] != 1 {
			return api.Matrix{}, false
		}
		m.Messages = append(m.Messages, api.Message{ID: uint32(pair(b, at)), Owner: int(b[at+2]), Event: b[at+3] == 1})
	}
	for at := windowsAt + 1; at < len(b); at += windowBytes {
		m.Windows = append(m.Windows, api.Window{Kind: int(b[at]), Start: pair(b, at+1), End: pair(b, at+3), Cycle: int(b[at+5]), Repeat: int(b[at+6]), Msg: int(b[at+7])})
	}
	if !matrix.Is(m) {
		return api.Matrix{}, false
	}
	return m, true
}

// printIs also asks Size, and whether it is read as the same again.
func printIs(t *testing.T, what string, m api.Matrix, want string) {
	t.Helper()
	was := all(m)
	if got := Print(m); got != want {
		t.Errorf("P13.1: %s: Print: %x, want %x", what, got, want)
	}
	if got := Size(m); got != len(want) {
		t.Errorf("P13.1: %s: Size: %d, want %d", what, got, len(want))
	}
	if all(m) != was {
		t.Errorf("P13.1: %s: it was changed", what)
	}
	if want == "" {
		return
	}
	if k, e := Parse(want); e != api.OK || all(k) != was || !matrix.Same(k, m) {
		t.Errorf("P13.2: %s: %s is read as %s, %v", what, was, all(k), e)
	}
}

// noText: what isn't a matrix.
func noText(t *testing.T, what string, m api.Matrix) {
	t.Helper()
	if matrix.Is(m) {
		t.Fatalf("%s: it is a matrix", what)
	}
	printIs(t, what, m, "")
}

// noMatrix: what isn't a text of one.
func noMatrix(t *testing.T, what, b string) {
	t.Helper()
	k, e := Parse(b)
	if e != noConfig {
		t.Errorf("P13.1: %s: Parse(%x): %v, want %v", what, b, e, noConfig)
	}
	if all(k) != all(api.Matrix{}) {
		t.Errorf("P13.1: %s: Parse(%x): beside an error %s", what, b, all(k))
	}
}

// parseIs holds Parse against the chapter's words, whatever b is; it answers whether that is a text.
func parseIs(t *testing.T, what, b string) bool {
	t.Helper()
	want, ok := modelParse(b)
	if !ok {
		noMatrix(t, what, b)
		return false
	}
	k, e := Parse(b)
	if e != api.OK || all(k) != all(want) {
		t.Errorf("P13.1: %s: Parse(%x): %s, %v, want %s", what, b, all(k), e, all(want))
	}
	if again := Print(k); again != b {
		t.Errorf("P13.2: %s: %x is printed as %x", what, b, again)
	}
	return true
}

// put answers b with another byte at a place.
func put(b string, at, n int) string { return b[:at] + string([]byte{byte(n)}) + b[at+1:] }

func putTwo(b string, at, n int) string { return put(put(b, at, n/256), at+1, n%256) }

func TestPrintLeast(t *testing.T) {
	want := bytesOf(t, "4f 01 01 01 0001 01 01 0000 0000  01 00  00  00")
	if len(want) != 16 {
		t.Fatal(len(want))
	}
	printIs(t, "the least", least(), want)
}

func TestPrintMost(t *testing.T) {
	want := bytesOf(t, "4f 02 08 08 0fa0 10 40 1f40 07f8  04 63 63 63 63"+
		"0c"+strings.Repeat("07ff 63 01", 12)+
		"10"+strings.Repeat("01 0f9f 0fa0 07 08 63", 16))
	if len(want) != 195 {
		t.Fatal(len(want))
	}
	printIs(t, "the greatest", most(), want)
}

func TestPrintOrdinary(t *testing.T) {
	printIs(t, "an ordinary one", plain(), bytesOf(t, "4f 02 05 04 0384 07 20 0078 0458  03 03 00 04"+
		"04 012c 01 00  004d 02 01  07cf 04 00  0005 00 01"+
		"04 01 0064 00dc 01 02 02  02 00e6 01f4 03 04 00  03 0258 0384 00 01 00  01 01f5 0257 00 01 00"))
	quiet := plain()
	quiet.Messages = nil
	printIs(t, "no messages", quiet, bytesOf(t, "4f 02 05 04 0384 07 20 0078 0458  03 03 00 04  00"+
		"04 01 0064 00dc 01 02 02  02 00e6 01f4 03 04 00  03 0258 0384 00 01 00  01 01f5 0257 00 01 00"))
	quiet = plain()
	quiet.Windows = nil
	printIs(t, "no windows", quiet, bytesOf(t, "4f 02 05 04 0384 07 20 0078 0458  03 03 00 04"+
		"04 012c 01 00  004d 02 01  07cf 04 00  0005 00 01  00"))
	quiet.Messages = nil
	printIs(t, "neither", quiet, bytesOf(t, "4f 02 05 04 0384 07 20 0078 0458  03 03 00 04  00 00"))
}

// field: a number of a matrix, its bounds, its place in the text of base() and how many bytes it has there.
type field struct {
	name     string
	set      func(m *api.Matrix, n int)
	from, to int
	at, long int
}

// base has two of each list; its windows leave room for every length and count.
func base() api.Matrix {
	return api.Matrix{
		Level: 1, Nodes: 3, Cycles: 8, Length: 4000, Enable: 5, Unit: 33, Init: 77, Ref: 40,
		Masters:  []int{11, 22},
		Messages: []api.Message{{ID: 600, Owner: 12}, {ID: 33, Owner: 23, Event: true}},
		Windows: []api.Window{
			{Kind: api.WExclusive, Start: 0, End: 4000, Cycle: 0, Repeat: 8, Msg: 13},
			{Kind: api.WExclusive, Start: 0, End: 4000, Cycle: 0, Repeat: 8, Msg: 24},
		},
	}
}

const (
	baseMasters  = headBytes + 1
	baseMessages = baseMasters + 2 + 1
	baseWindows  = baseMessages + 2*messageBytes + 1
)

func fields() []field {
	out := []field{
		{"Level", func(m *api.Matrix, n int) { m.Level = n }, 1, 2, 1, 1},
		{"Nodes", func(m *api.Matrix, n int) { m.Nodes = n }, 1, mostNodes, 2, 1},
		{"Enable", func(m *api.Matrix, n int) { m.Enable = n }, 1, mostEnable, 6, 1},
		{"Unit", func(m *api.Matrix, n int) { m.Unit = n }, 1, mostUnit, 7, 1},
		{"Init", func(m *api.Matrix, n int) { m.Init = n }, 0, mostInit, 8, 2},
	}
	for i := range 2 {
		of := fmt.Sprintf(" of %d", i)
		message, window := baseMessages+i*messageBytes, baseWindows+i*windowBytes
		out = append(out,
			field{"master" + of, func(m *api.Matrix, n int) { m.Masters[i] = n }, 0, mostName, baseMasters + i, 1},
			field{"Owner" + of, func(m *api.Matrix, n int) { m.Messages[i].Owner = n }, 0, mostName, message + 2, 1},
			field{"Start" + of, func(m *api.Matrix, n int) { m.Windows[i].Start = n }, 0, mostLength - 1, window + 1, 2},
			field{"End" + of, func(m *api.Matrix, n int) { m.Windows[i].End = n }, 1, mostLength, window + 3, 2},
			field{"Cycle" + of, func(m *api.Matrix, n int) { m.Windows[i].Cycle = n }, 0, 7, window + 5, 1},
			field{"Msg" + of, func(m *api.Matrix, n int) { m.Windows[i].Msg = n }, 0, mostName, window + 7, 1})
	}
	return out
}

// inPlace answers base's text with a number in a field's place.
func (f field) inPlace(n int) string {
	if f.long == 2 {
		return putTwo(Print(base()), f.at, n)
	}
	return put(Print(base()), f.at, n)
}

// TestPrintFields: each field at its bounds and between, wherever a byte's end lies; nothing else of the text hangs on it.
func TestPrintFields(t *testing.T) {
	printIs(t, "base", base(), bytesOf(t, "4f 01 03 08 0fa0 05 21 004d 0028  02 0b 16  02 0258 0c 00  0021 17 01"+
		"02 01 0000 0fa0 00 08 0d  01 0000 0fa0 00 08 18"))
	for _, f := range fields() {
		for _, n := range []int{f.from, f.from + 1, (f.from + f.to) / 2, 127, 128, 254, 255, 256, 257, 511, 512, 1023, 2047, 2048, f.to - 1, f.to} {
			if n < f.from || n > f.to {
				continue
			}
			m := base()
			f.set(&m, n)
			printIs(t, fmt.Sprintf("%s %d", f.name, n), m, f.inPlace(n))
		}
	}
}

// TestPrintNoFields: each field beside its bounds and far beyond.
func TestPrintNoFields(t *testing.T) {
	for _, f := range fields() {
		for _, n := range append([]int{f.from - 1, f.to + 1, f.from - 256, f.from + 65536, f.to + 1<<32}, far...) {
			m := base()
			f.set(&m, n)
			noText(t, fmt.Sprintf("%s %d", f.name, n), m)
		}
	}
	for _, n := range []int{-1, 0, 3, 5, 6, 7, 9, 16, 256 + 8, math.MaxInt, math.MinInt} {
		m := base()
		m.Cycles = n
		noText(t, fmt.Sprintf("Cycles %d", n), m)
		m = base()
		m.Windows[1].Repeat = n
		noText(t, fmt.Sprintf("Repeat %d", n), m)
	}
	for _, n := range []int{-1, 0, 3999, 4001, 65536 + 4000, math.MaxInt, math.MinInt} {
		m := base()
		m.Length = n
		noText(t, fmt.Sprintf("Length %d", n), m)
	}
	for _, n := range []int{-1, 0, 4, 256 + 1, math.MaxInt, math.MinInt} {
		m := base()
		m.Windows[0].Kind = n
		noText(t, fmt.Sprintf("Kind %d", n), m)
	}
	for _, n := range []uint32{1, 7, 41, 2047, 2048, 65536 + 8, math.MaxUint32 - 7, math.MaxUint32} {
		m := base()
		m.Ref = n
		noText(t, fmt.Sprintf("Ref %d", n), m)
	}
	for _, n := range []uint32{2048, 65535, 65536, 65536 + 8, math.MaxUint32} {
		m := base()
		m.Messages[1].ID = n
		noText(t, fmt.Sprintf("ID %d", n), m)
	}
	m := base()
	m.Windows[0].Kind = api.WArbitrating
	noText(t, "a message of a window that isn't exclusive", m)
	m = base()
	m.Windows[1].Start = m.Windows[1].End
	noText(t, "a window of no units", m)
	noText(t, "nothing", api.Matrix{})
}

func TestPrintCounts(t *testing.T) {
	for _, n := range []int{1, 2, 4, 8} {
		m := base()
		m.Windows = nil
		m.Cycles = n
		b := Print(base())
		printIs(t, fmt.Sprintf("Cycles %d", n), m, put(b[:baseWindows-1]+"\x00", 3, n))
		m = base()
		m.Windows[1].Repeat, m.Windows[1].Cycle = n, n-1
		at := baseWindows + windowBytes
		printIs(t, fmt.Sprintf("Repeat %d", n), m, put(put(b, at+5, n-1), at+6, n))
	}
	for n := 1; n <= 3; n++ {
		m := base()
		m.Windows[0].Kind, m.Windows[0].Msg = n, 0
		printIs(t, fmt.Sprintf("Kind %d", n), m, put(put(Print(base()), baseWindows, n), baseWindows+7, 0))
	}
}

// TestPrintTwoBytes: every number that a Length, an Init, a Ref, an ID, a Start, an End may be.
func TestPrintTwoBytes(t *testing.T) {
	bare := Print(least())
	for n := range 9000 {
		m := least()
		m.Init = n
		twoBytes(t, "Init", m, putTwo(bare, 8, n), n <= mostInit)
		m = least()
		m.Length = n
		twoBytes(t, "Length", m, putTwo(bare, 4, n), n >= 1 && n <= mostLength)
		m = least()
		m.Ref = uint32(n)
		twoBytes(t, "Ref", m, putTwo(bare, 10, n), n < idEnd && n%8 == 0)
		m = base()
		m.Messages[0].ID = uint32(n)
		twoBytes(t, "ID", m, putTwo(Print(base()), baseMessages, n), n < idEnd)
		m = base()
		m.Windows[0].Start = n
		twoBytes(t, "Start", m, putTwo(Print(base()), baseWindows+1, n), n < mostLength)
		m = base()
		m.Windows[0].End = n
		twoBytes(t, "End", m, putTwo(Print(base()), baseWindows+3, n), n >= 1 && n <= mostLength)
	}
}

func twoBytes(t *testing.T, what string, m api.Matrix, b string, right bool) {
	t.Helper()
	if !right {
		noText(t, what, m)
		noMatrix(t, what, b)
		return
	}
	printIs(t, what, m, b)
}

func TestPrintLists(t *testing.T) {
	head := bytesOf(t, "4f 02 08 08 0fa0 10 40 1f40 07f8")
	for n := range 40 {
		m := most()
		m.Masters, m.Messages, m.Windows = nil, nil, nil
		for i := range n {
			m.Masters = append(m.Masters, 50+i)
		}
		if n >= 1 && n <= mostMasters {
			printIs(t, fmt.Sprintf("%d masters", n), m, head+string([]byte{byte(n)})+"\x32\x33\x34\x35"[:n]+"\x00\x00")
		} else {
			noText(t, fmt.Sprintf("%d masters", n), m)
		}
		m.Masters = []int{1}
		tail := ""
		for i := range n {
			m.Messages = append(m.Messages, api.Message{ID: uint32(1000 + i), Owner: i, Event: i%3 == 0})
			tail += bytesOf(t, fmt.Sprintf("%04x %02x %02x", 1000+i, i, []int{1, 0, 0}[i%3]))
		}
		if n <= mostMessages {
			printIs(t, fmt.Sprintf("%d messages", n), m, head+"\x01\x01"+string([]byte{byte(n)})+tail+"\x00")
		} else {
			noText(t, fmt.Sprintf("%d messages", n), m)
		}
		m.Messages, tail = nil, ""
		for i := range n {
			m.Windows = append(m.Windows, api.Window{Kind: 1, Start: 250 + i, End: 260 + 2*i, Cycle: i % 4, Repeat: 4, Msg: i})
			tail += bytesOf(t, fmt.Sprintf("01 %04x %04x %02x 04 %02x", 250+i, 260+2*i, i%4, i))
		}
		if n <= mostWindows {
			printIs(t, fmt.Sprintf("%d windows", n), m, head+"\x01\x01\x00"+string([]byte{byte(n)})+tail)
		} else {
			noText(t, fmt.Sprintf("%d windows", n), m)
		}
	}
	// so many that a byte would tell a right number of them
	m := most()
	m.Masters = make([]int, 257)
	noText(t, "257 masters", m)
	m = most()
	m.Messages = make([]api.Message, 256)
	noText(t, "256 messages", m)
	m = most()
	m.Windows = slices.Repeat(m.Windows[:1], 256)
	noText(t, "256 windows", m)
}

// TestNilAndEmpty: there is one text of no messages, however they are none.
func TestNilAndEmpty(t *testing.T) {
	none, empty := plain(), plain()
	none.Messages, none.Windows = nil, nil
	empty.Messages, empty.Windows = []api.Message{}, []api.Window{}
	if a, b := Print(none), Print(empty); a != b || a == "" {
		t.Errorf("P13.1: nil lists: %x, empty ones: %x", a, b)
	}
	printIs(t, "empty lists", empty, modelPrint(t, none))
	k, e := Parse(Print(empty))
	if e != api.OK || !matrix.Same(k, none) || !matrix.Same(k, empty) || len(k.Messages)+len(k.Windows) != 0 {
		t.Errorf("P13.2: empty lists are read as %s, %v", all(k), e)
	}
	empty.Masters, none.Masters = []int{}, nil
	noText(t, "empty masters", empty)
	noText(t, "masters nil", none)
}

// TestPlacesOfFaults: what isn't right is seen wherever in its list it stands, printed or read.
func TestPlacesOfFaults(t *testing.T) {
	b := Print(most())
	messagesAt := headBytes + 1 + mostMasters + 1
	windowsAt := messagesAt + mostMessages*messageBytes + 1
	for place := range mostMasters {
		m := most()
		m.Masters[place] = 100
		noText(t, fmt.Sprintf("master %d", place), m)
		noMatrix(t, fmt.Sprintf("master %d", place), put(b, headBytes+1+place, 100))
	}
	for place := range mostMessages {
		at := messagesAt + place*messageBytes
		m := most()
		m.Messages[place].ID = idEnd
		noText(t, fmt.Sprintf("ID %d", place), m)
		noMatrix(t, fmt.Sprintf("ID %d", place), putTwo(b, at, idEnd))
		m = most()
		m.Messages[place].Owner = 100
		noText(t, fmt.Sprintf("Owner %d", place), m)
		noMatrix(t, fmt.Sprintf("Owner %d", place), put(b, at+2, 100))
		for event := 2; event < 256; event++ {
			noMatrix(t, fmt.Sprintf("Event %d of %d", event, place), put(b, at+3, event))
		}
	}
	for place := range mostWindows {
		for i, wrong := range []struct{ at, n int }{{0, 0}, {0, 4}, {0, 2}, {1, 255}, {3, 0}, {4, 0xa1}, {5, 8}, {6, 16}, {6, 4}, {6, 7}, {7, 100}} {
			changed := put(b, windowsAt+place*windowBytes+wrong.at, wrong.n)
			noMatrix(t, fmt.Sprintf("wrong window %d at %d", i, place), changed)
		}
		m := most()
		m.Windows[place].Cycle = 8
		noText(t, fmt.Sprintf("Cycle %d", place), m)
	}
}

// TestEvents: each message has its own.
func TestEvents(t *testing.T) {
	for set := range 1 << mostMessages {
		m := least()
		want := Print(m)[:headBytes+2] + "\x0c"
		for i := range mostMessages {
			on := set>>i&1 == 1
			m.Messages = append(m.Messages, api.Message{ID: 9, Owner: 3, Event: on})
			want += "\x00\x09\x03" + map[bool]string{false: "\x00", true: "\x01"}[on]
		}
		printIs(t, fmt.Sprintf("events %b", set), m, want+"\x00")
	}
}

func TestParseNone(t *testing.T) {
	noMatrix(t, "the empty text", "")
	noMatrix(t, "O alone", "O")
	noMatrix(t, "o alone", "o")
	noMatrix(t, "many O", strings.Repeat("O", 16))
	for _, one := range some {
		b := Print(one.fresh())
		for n := range 256 {
			if n != 'O' {
				noMatrix(t, fmt.Sprintf("%s, first byte %d", one.name, n), put(b, 0, n))
			}
		}
		noMatrix(t, one.name+", without its first byte", b[1:])
		noMatrix(t, one.name+", a byte ahead", "O"+b)
		noMatrix(t, one.name+", a blank ahead", " "+b)
		noMatrix(t, one.name+", twice", b+b)
	}
	for n := range 256 {
		parseIs(t, "one byte", string([]byte{byte(n)}))
		parseIs(t, "zeros behind O", "O"+strings.Repeat("\x00", n))
		parseIs(t, "bytes alike behind O", "O"+strings.Repeat(string([]byte{byte(n)}), 40))
	}
}

func TestParseCut(t *testing.T) {
	for _, one := range some {
		b := Print(one.fresh())
		for i := range len(b) {
			noMatrix(t, fmt.Sprintf("%s, cut at %d", one.name, i), b[:i])
			noMatrix(t, fmt.Sprintf("%s, the end from %d on", one.name, i+1), b[i+1:])
		}
	}
}

func TestParseMore(t *testing.T) {
	for _, one := range some {
		b := Print(one.fresh())
		for n := range 256 {
			noMatrix(t, fmt.Sprintf("%s, byte %d behind", one.name, n), b+string([]byte{byte(n)}))
		}
		for long := 1; long <= 450; long++ {
			noMatrix(t, fmt.Sprintf("%s, %d bytes behind", one.name, long), b+strings.Repeat("\x00", long))
		}
	}
}

// TestParseTurned: each byte of each text as every other one; a byte taken out, or put between.
func TestParseTurned(t *testing.T) {
	right := 0
	for _, one := range some {
		b := Print(one.fresh())
		for at := range len(b) {
			for n := range 256 {
				if parseIs(t, fmt.Sprintf("%s, byte %d as %d", one.name, at, n), put(b, at, n)) && byte(n) != b[at] {
					right++
				}
			}
			parseIs(t, fmt.Sprintf("%s, without byte %d", one.name, at), b[:at]+b[at+1:])
			for _, n := range []byte{0, 1, 2, b[at], 255} {
				parseIs(t, fmt.Sprintf("%s, %d ahead of byte %d", one.name, n, at), b[:at]+string([]byte{n})+b[at:])
			}
		}
	}
	if right < 1000 {
		t.Errorf("of all these only %d were texts", right)
	}
}

// TestParseFields: every number in every field's place; those that no matrix has are refused.
func TestParseFields(t *testing.T) {
	for _, f := range fields() {
		for n := range 1 << (8 * f.long) {
			b := f.inPlace(n)
			if n >= f.from && n <= f.to {
				k, e := Parse(b)
				m := base()
				f.set(&m, n)
				if e != api.OK || all(k) != all(m) {
					t.Fatalf("P13.1: %s %d: Parse: %s, %v", f.name, n, all(k), e)
				}
			} else {
				noMatrix(t, fmt.Sprintf("%s %d", f.name, n), b)
			}
		}
	}
}

// TestParseCounts: lists that say more or fewer than there are.
func TestParseCounts(t *testing.T) {
	for _, one := range some {
		m := one.fresh()
		b := Print(m)
		messagesAt := headBytes + 1 + len(m.Masters)
		windowsAt := messagesAt + 1 + messageBytes*len(m.Messages)
		for n := range 256 {
			if n != len(m.Windows) {
				noMatrix(t, fmt.Sprintf("%s, it says %d windows", one.name, n), put(b, windowsAt, n))
			}
			if n != len(m.Messages) {
				parseIs(t, fmt.Sprintf("%s, it says %d messages", one.name, n), put(b, messagesAt, n))
			}
			if n != len(m.Masters) {
				parseIs(t, fmt.Sprintf("%s, it says %d masters", one.name, n), put(b, headBytes, n))
			}
		}
	}
	head := Print(least())[:headBytes]
	noMatrix(t, "one message too few", head+"\x01\x00"+"\x02\x00\x01\x00\x00"+"\x00")
	noMatrix(t, "one message too many", head+"\x01\x00"+"\x00\x00\x01\x00\x00"+"\x00")
	noMatrix(t, "a window that isn't told", head+"\x01\x00"+"\x00"+"\x00\x01\x00\x00\x00\x01\x00\x01\x00")
	noMatrix(t, "no masters", head+"\x00"+"\x00"+"\x00")
	noMatrix(t, "no masters, but one behind", head+"\x00\x00"+"\x00"+"\x00")
	noMatrix(t, "no count of windows", head+"\x01\x00"+"\x00")
	noMatrix(t, "no count of messages", head+"\x01\x00")
	noMatrix(t, "no count of masters", head)
}

// tooLong answers texts as Print would write them, of lists of any length.
func tooLong(t *testing.T, masters, messages, windows int) string {
	m := most()
	m.Masters = slices.Repeat(m.Masters[:1], masters)
	m.Messages = slices.Repeat(m.Messages[:1], messages)
	m.Windows = slices.Repeat(m.Windows[:1], windows)
	return modelPrint(t, m)
}

// TestParseLongLists: texts that are whole, of lists that are too long, below MaxConfig bytes, at them and above.
func TestParseLongLists(t *testing.T) {
	for masters := range 8 {
		for messages := range 20 {
			for windows := range 24 {
				b := tooLong(t, masters, messages, windows)
				right := parseIs(t, fmt.Sprintf("%d, %d, %d", masters, messages, windows), b)
				if right != (masters >= 1 && masters <= mostMasters && messages <= mostMessages && windows <= mostWindows) {
					t.Fatalf("%d, %d, %d: %v", masters, messages, windows, right)
				}
			}
		}
	}
	for _, c := range [][3]int{{255, 0, 0}, {1, 90, 0}, {1, 0, 47}, {1, 1, 47}, {255, 255, 255}} {
		noMatrix(t, fmt.Sprint("lists of ", c), tooLong(t, c[0], c[1], c[2]))
	}
	for masters := 1; masters < 256; masters++ {
		if b := tooLong(t, masters, 12, 16); len(b) >= mostBytes-1 && len(b) <= mostBytes+1 {
			noMatrix(t, fmt.Sprintf("%d bytes", len(b)), b)
		}
	}
	for _, long := range []int{mostBytes - 1, mostBytes, mostBytes + 1, mostBytes + 2, 1000, 1 << 16, 1 << 22} {
		noMatrix(t, fmt.Sprintf("%d O", long), strings.Repeat("O", long))
		b := Print(most())
		noMatrix(t, fmt.Sprintf("%d bytes, a text ahead", long), b+strings.Repeat("\x00", long-len(b)))
		noMatrix(t, fmt.Sprintf("%d bytes, a text behind", long), strings.Repeat("\x00", long-len(b))+b)
	}
}

// anyMatrix: one that is a matrix.
func anyMatrix(r *rand.Rand) api.Matrix {
	m := api.Matrix{Level: 1 + r.Intn(2), Nodes: 1 + r.Intn(8), Cycles: 1 << r.Intn(4), Length: 1 + r.Intn(4000), Enable: 1 + r.Intn(16), Unit: 1 + r.Intn(64), Init: r.Intn(8001), Ref: uint32(8 * r.Intn(256))}
	if r.Intn(4) == 0 {
		m.Length = 1 + r.Intn(3)
	}
	for range 1 + r.Intn(4) {
		m.Masters = append(m.Masters, r.Intn(100))
	}
	for range r.Intn(13) {
		m.Messages = append(m.Messages, api.Message{ID: uint32(r.Intn(idEnd)), Owner: r.Intn(100), Event: r.Intn(2) == 0})
	}
	for range r.Intn(17) {
		w := api.Window{Kind: 1 + r.Intn(3), Start: r.Intn(m.Length), Repeat: min(1<<r.Intn(4), m.Cycles)}
		w.End = w.Start + 1 + r.Intn(m.Length-w.Start)
		w.Cycle = r.Intn(w.Repeat)
		if w.Kind == api.WExclusive {
			w.Msg = r.Intn(100)
		}
		m.Windows = append(m.Windows, w)
	}
	return m
}

// spoil makes one number of a matrix another one, mostly a wrong one.
func spoil(r *rand.Rand, m *api.Matrix) {
	numbers := []*int{&m.Level, &m.Nodes, &m.Cycles, &m.Length, &m.Enable, &m.Unit, &m.Init}
	for i := range m.Masters {
		numbers = append(numbers, &m.Masters[i])
	}
	for i := range m.Messages {
		numbers = append(numbers, &m.Messages[i].Owner)
	}
	for i := range m.Windows {
		w := &m.Windows[i]
		numbers = append(numbers, &w.Kind, &w.Start, &w.End, &w.Cycle, &w.Repeat, &w.Msg)
	}
	*numbers[r.Intn(len(numbers))] += []int{-1, 1, 256, 65536, 1 << 32, math.MinInt, -9000, 9000}[r.Intn(8)]
}

func TestAnyMatrix(t *testing.T) {
	r := rand.New(rand.NewSource(13))
	texts := map[string]string{}
	none := 0
	for i := range 20000 {
		m := anyMatrix(r)
		b := modelPrint(t, m)
		printIs(t, fmt.Sprint("matrix ", i), m, b)
		if was, there := texts[b]; there && was != all(m) {
			t.Fatalf("P13.2: %x is the text of %s and of %s", b, was, all(m))
		}
		texts[b] = all(m)
		spoil(r, &m)
		if matrix.Is(m) {
			printIs(t, fmt.Sprint("matrix ", i, ", another number"), m, modelPrint(t, m))
		} else {
			none++
			noText(t, fmt.Sprint("matrix ", i, ", a wrong number"), m)
		}
	}
	if none < 5000 {
		t.Errorf("only %d were wrong", none)
	}
}

// TestAnyText: bytes as they come, and texts in which some of them are others.
func TestAnyText(t *testing.T) {
	r := rand.New(rand.NewSource(131))
	seen := [2]int{}
	for i := range 60000 {
		b := []byte(modelPrint(t, anyMatrix(r)))
		switch r.Intn(5) {
		case 0:
			b = make([]byte, r.Intn(420))
			r.Read(b)
		case 1:
			b = append([]byte("O"), make([]byte, r.Intn(40))...)
			for at := range b[1:] {
				b[at+1] = byte(r.Intn(3))
			}
		case 2:
			other := modelPrint(t, anyMatrix(r))
			b = append(b[:r.Intn(len(b))], other[r.Intn(len(other)):]...)
		default:
			for range 1 + r.Intn(3) {
				b[r.Intn(len(b))] ^= 1 << r.Intn(8)
			}
		}
		if parseIs(t, fmt.Sprint("text ", i), string(b)) {
			seen[1]++
		} else {
			seen[0]++
		}
	}
	if seen[0] < 1000 || seen[1] < 1000 {
		t.Errorf("the texts are too much alike: %v", seen)
	}
}

// roomy has lists with spare room in which something stands.
func roomy() api.Matrix {
	m := plain()
	m.Masters = append(m.Masters, 61, 62, 63)[:len(m.Masters)]
	m.Messages = append(m.Messages, api.Message{ID: 61}, api.Message{ID: 62})[:len(m.Messages)]
	m.Windows = append(m.Windows, api.Window{Kind: 61}, api.Window{Kind: 62})[:len(m.Windows)]
	return m
}

// behind tells a matrix with all that stands in its spare room.
func behind(m api.Matrix) string {
	m.Masters = m.Masters[:cap(m.Masters)]
	m.Messages = m.Messages[:cap(m.Messages)]
	m.Windows = m.Windows[:cap(m.Windows)]
	return all(m)
}

func TestNothingIsTouched(t *testing.T) {
	m := roomy()
	was := behind(m)
	printIs(t, "spare room", m, modelPrint(t, plain()))
	Size(m)
	if behind(m) != was {
		t.Error("P13.1: a call wrote into what it was handed")
	}
	// a text stays what it is, whatever becomes of the matrix
	b := Print(m)
	want := strings.Clone(b)
	wreck(&m)
	if b != want {
		t.Error("P13.1: what is done with a matrix is to be seen in its text")
	}
}

// wreck changes every place of every list, and appends to it.
func wreck(m *api.Matrix) {
	for i := range m.Masters {
		m.Masters[i] = -7
	}
	for i := range m.Messages {
		m.Messages[i] = api.Message{ID: 7777}
	}
	for i := range m.Windows {
		m.Windows[i] = api.Window{Kind: -7}
	}
	for range 20 {
		m.Masters = append(m.Masters, -8)
		m.Messages = append(m.Messages, api.Message{ID: 8888})
		m.Windows = append(m.Windows, api.Window{Kind: -8})
	}
}

// TestAnswersApart: whatever is done with one answer, no other one, earlier or later, is another for it.
func TestAnswersApart(t *testing.T) {
	for _, one := range some {
		m := one.fresh()
		b, was := Print(m), all(m)
		first, _ := Parse(b)
		second, _ := Parse(b)
		spare := behind(second)
		wreck(&first)
		third, e := Parse(b)
		if all(second) != was || behind(second) != spare || e != api.OK || all(third) != was || all(m) != was {
			t.Errorf("P13.1: %s: what is done with an answer is to be seen elsewhere", one.name)
		}
		wreck(&third)
		if all(second) != was || Print(second) != b || Print(m) != b {
			t.Errorf("P13.1: %s: what is done with a later answer is to be seen elsewhere", one.name)
		}
	}
}

// TestAppendedApart: each list may be appended to, and the others stay as they were.
func TestAppendedApart(t *testing.T) {
	for messages := range mostMessages + 1 {
		m := most()
		m.Messages = m.Messages[:messages]
		m.Windows = m.Windows[:messages]
		m.Masters = m.Masters[:1+messages%mostMasters]
		b, was := Print(m), all(m)
		one, _ := Parse(b)
		two, _ := Parse(b)
		one.Masters = append(one.Masters, 1)
		two.Masters = append(two.Masters, 2)
		one.Messages = append(one.Messages, api.Message{ID: 1})
		two.Messages = append(two.Messages, api.Message{ID: 2})
		one.Windows = append(one.Windows, api.Window{Msg: 1})
		two.Windows = append(two.Windows, api.Window{Msg: 2})
		for n, k := range []api.Matrix{one, two} {
			last := []int{k.Masters[len(k.Masters)-1], int(k.Messages[messages].ID), k.Windows[messages].Msg}
			if !slices.Equal(last, []int{n + 1, n + 1, n + 1}) {
				t.Fatalf("P13.1: %d messages: appended to answer %d: %v", messages, n, last)
			}
			k.Masters, k.Messages, k.Windows = k.Masters[:len(k.Masters)-1], k.Messages[:messages], k.Windows[:messages]
			if all(k) != was {
				t.Fatalf("P13.1: %d messages: answer %d is %s, want %s", messages, n, all(k), was)
			}
		}
	}
}

// TestSameAgain: what was asked before, also what was refused, is to be seen in no answer.
func TestSameAgain(t *testing.T) {
	b, c := Print(plain()), Print(most())
	for _, between := range []string{"", "O", b[:20], c, b + "x", strings.Repeat("O", 500)} {
		Parse(between)
		Print(api.Matrix{})
		if k, e := Parse(b); e != api.OK || all(k) != all(plain()) {
			t.Errorf("P13.1: behind %x: %s, %v", between, all(k), e)
		}
		if got := Print(plain()); got != b || Size(plain()) != len(b) {
			t.Errorf("P13.1: behind %x: %x", between, got)
		}
	}
}

// FuzzParse: any bytes at all.
func FuzzParse(f *testing.F) {
	for _, one := range some {
		f.Add(Print(one.fresh()))
	}
	f.Add("")
	f.Add("O")
	f.Fuzz(func(t *testing.T, b string) { parseIs(t, "any bytes", b) })
}
