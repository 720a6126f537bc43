package frame

import (
	"fmt"
	"math"
	"math/rand"
	"strings"
	"testing"

	"ostinato/api"
)

const (
	topID = 1<<11 - 1
	topEx = 1<<29 - 1
	id123 = "00100100011"        // 123 in 11 bits
	low1  = "000000000000000001" // 1 in 18 bits
)

func same(t *testing.T, what string, got, want any) {
	t.Helper()
	if got != want {
		t.Errorf("%s: %#v, want %#v", what, got, want)
	}
}

func sameParse(t *testing.T, s string, f api.Frame, n int, e api.Errno) {
	t.Helper()
	gotF, gotN, gotE := Parse(s)
	if gotF != f || gotN != n || gotE != e {
		t.Errorf("P3.2: Parse(%q): %#v, %d, %d, want %#v, %d, %d", s, gotF, gotN, gotE, f, n, e)
	}
}

// ids: some identifiers, those at the bounds among them.
func ids(ext bool) []uint32 {
	if ext {
		return []uint32{0, 1, 1<<18 - 1, 1 << 18, 0x123<<18 | 1, 0x0aaaaaaa, 0x15555555, topEx - 1, topEx}
	}
	return []uint32{0, 1, 0x123, 0x400, 0x555, 0x2aa, topID - 1, topID}
}

// frames: all kinds, with each count of bytes.
func frames() []api.Frame {
	var all []api.Frame
	for _, ext := range []bool{false, true} {
		for _, id := range ids(ext) {
			all = append(all, api.Frame{Ext: ext, ID: id, RTR: true})
			for n := 0; n <= api.MaxData; n++ {
				all = append(all, api.Frame{Ext: ext, ID: id, Data: "\x00\xff\x80\x01\n#\xc3\xa9"[:n]})
			}
		}
	}
	return all
}

// noFrames: each is beyond one bound, by one or by far.
func noFrames() []api.Frame {
	return []api.Frame{
		{ID: 1 << 11}, {ID: 1 << 28}, {ID: 1 << 29}, {ID: math.MaxUint32}, {ID: 1 << 11, RTR: true},
		{Ext: true, ID: 1 << 29}, {Ext: true, ID: 1 << 31}, {Ext: true, ID: math.MaxUint32}, {Ext: true, ID: 1 << 29, RTR: true},
		{Data: "123456789"}, {Ext: true, Data: "123456789"}, {Data: strings.Repeat("x", 1000)}, {Data: strings.Repeat("x", 16)},
		{RTR: true, Data: "x"}, {RTR: true, Data: "12345678"}, {RTR: true, Data: "123456789"},
		{Ext: true, RTR: true, Data: "\x00"}, {Ext: true, RTR: true, Data: "12345678"},
	}
}

// some: a frame that the source picks.
func some(r *rand.Rand) api.Frame {
	f := api.Frame{Ext: r.Intn(2) == 0, RTR: r.Intn(3) == 0, ID: uint32(r.Intn(1 << 11))}
	if f.Ext {
		f.ID = uint32(r.Intn(1 << 29))
	}
	if !f.RTR {
		b := make([]byte, r.Intn(api.MaxData+1))
		r.Read(b)
		f.Data = string(b)
	}
	return f
}

// written: Arb and the rest of the body, by other means than the program's.
func written(f api.Frame) (arb, rest string) {
	rtr := "0"
	if f.RTR {
		rtr = "1"
	}
	if f.Ext {
		id := fmt.Sprintf("%029b", f.ID)
		arb, rest = "0"+id[:11]+"11"+id[11:]+rtr, "00"
	} else {
		arb, rest = "0"+fmt.Sprintf("%011b", f.ID)+rtr+"0", "0"
	}
	rest += fmt.Sprintf("%04b", len(f.Data))
	for _, b := range []byte(f.Data) {
		rest += fmt.Sprintf("%08b", b)
	}
	return arb, rest
}

// strange: the row with each 0 that the source picks written by another sign that isn't 1.
func strange(r *rand.Rand, row string) string {
	const other = "0x\x00\xff /2\x81\xb1O"
	b := []byte(row)
	for i := range b {
		if b[i] == '0' {
			b[i] = other[r.Intn(len(other))]
		}
	}
	return string(b)
}

// P3.1
func TestIs(t *testing.T) {
	for _, f := range frames() {
		same(t, fmt.Sprintf("P3.1: Is(%#v)", f), Is(f), true)
	}
	for _, f := range noFrames() {
		same(t, fmt.Sprintf("P3.1: Is(%#v)", f), Is(f), false)
	}
	for _, ext := range []bool{false, true} {
		for shift := range 32 {
			f := api.Frame{Ext: ext, ID: 1 << shift}
			same(t, fmt.Sprintf("P3.1: Is(%#v)", f), Is(f), shift < 11 || ext && shift < 29)
		}
	}
}

// P3.1: rows written out by hand.
func TestBodyAndArb(t *testing.T) {
	for _, c := range []struct {
		f         api.Frame
		arb, rest string
	}{
		{api.Frame{}, "0" + "00000000000" + "0" + "0", "0" + "0000"},
		{api.Frame{ID: 0x123, Data: "\n"}, "0" + id123 + "0" + "0", "0" + "0001" + "00001010"},
		{api.Frame{ID: topID, RTR: true}, "0" + "11111111111" + "1" + "0", "0" + "0000"},
		{api.Frame{ID: 1, Data: "A\x80"}, "0" + "00000000001" + "0" + "0", "0" + "0010" + "01000001" + "10000000"},
		{api.Frame{ID: 2, Data: "\x00\x00\x00\x00\x00\x00\x00\x01"}, "0" + "00000000010" + "0" + "0", "0" + "1000" + strings.Repeat("0", 63) + "1"},
		{api.Frame{Ext: true}, "0" + "00000000000" + "1" + "1" + strings.Repeat("0", 18) + "0", "0" + "0" + "0000"},
		{api.Frame{Ext: true, ID: 1, Data: "\xff"}, "0" + "00000000000" + "1" + "1" + low1 + "0", "0" + "0" + "0001" + "11111111"},
		{api.Frame{Ext: true, ID: 0x123<<18 | 1, RTR: true}, "0" + id123 + "1" + "1" + low1 + "1", "0" + "0" + "0000"},
		{api.Frame{Ext: true, ID: 1<<18 - 1}, "0" + "00000000000" + "1" + "1" + strings.Repeat("1", 18) + "0", "0" + "0" + "0000"},
		{api.Frame{Ext: true, ID: topEx, RTR: true}, "0" + "11111111111" + "1" + "1" + strings.Repeat("1", 18) + "1", "0" + "0" + "0000"},
	} {
		same(t, fmt.Sprintf("P3.1: Arb(%#v)", c.f), Arb(c.f), c.arb)
		same(t, fmt.Sprintf("P3.1: Body(%#v)", c.f), Body(c.f), c.arb+c.rest)
	}
}

// P3.1
func TestBodyAndArbOfAllKinds(t *testing.T) {
	all := frames()
	r := rand.New(rand.NewSource(1))
	for range 500 {
		all = append(all, some(r))
	}
	for _, f := range all {
		arb, rest := written(f)
		same(t, fmt.Sprintf("P3.1: Arb(%#v)", f), Arb(f), arb)
		same(t, fmt.Sprintf("P3.1: Body(%#v)", f), Body(f), arb+rest)
	}
}

// P3.1, P3.3: what is no frame has no row and no text.
func TestNoFrame(t *testing.T) {
	for _, f := range noFrames() {
		same(t, fmt.Sprintf("P3.1: Body(%#v)", f), Body(f), "")
		same(t, fmt.Sprintf("P3.1: Arb(%#v)", f), Arb(f), "")
		same(t, fmt.Sprintf("P3.3: Text(%#v)", f), Text(f), "")
	}
}

// P3.2: what isn't written so, but is read.
func TestParseWhatMayBeAnything(t *testing.T) {
	plain, remote := api.Frame{ID: 0x123}, api.Frame{ID: 0x123, RTR: true}
	for _, spare := range []string{"0", "1"} {
		sameParse(t, "0"+id123+"00"+spare+"0000", plain, 19, 0)
		sameParse(t, "0"+id123+"10"+spare+"0000", remote, 19, 0)
	}
	ext, extRemote := api.Frame{Ext: true, ID: 0x123<<18 | 1}, api.Frame{Ext: true, ID: 0x123<<18 | 1, RTR: true}
	for _, spare := range []string{"00", "01", "10", "11"} {
		sameParse(t, "0"+id123+"11"+low1+"0"+spare+"0000", ext, 39, 0)
		sameParse(t, "0"+id123+"11"+low1+"1"+spare+"0000", extRemote, 39, 0)
	}
}

// P3.2: each count that four bits can tell, without and with RTR and Ext.
func TestParseCounts(t *testing.T) {
	const data = "12345678"
	bytes := ""
	for _, b := range []byte(data + "9ABCDEF") {
		bytes += fmt.Sprintf("%08b", b)
	}
	for count := range 16 {
		told := fmt.Sprintf("%04b", count)
		n := min(count, 8)
		for head, f := range map[string]api.Frame{
			"0" + id123 + "00" + "0":               {ID: 0x123},
			"0" + id123 + "11" + low1 + "0" + "00": {Ext: true, ID: 0x123<<18 | 1},
		} {
			f.Data = data[:n]
			row := head + told + bytes
			whole := len(head) + 4 + 8*n
			sameParse(t, row, f, whole, 0)
			sameParse(t, row[:whole], f, whole, 0)
			sameParse(t, row[:whole-1], api.Frame{}, 0, api.ErrShort)
		}
		for head, f := range map[string]api.Frame{
			"0" + id123 + "10" + "0":               {ID: 0x123, RTR: true},
			"0" + id123 + "11" + low1 + "1" + "00": {Ext: true, ID: 0x123<<18 | 1, RTR: true},
		} {
			sameParse(t, head+told, f, len(head)+4, 0)
			sameParse(t, head+told+bytes, f, len(head)+4, 0)
			sameParse(t, head+told[:3], api.Frame{}, 0, api.ErrShort)
		}
	}
}

// P3.2: rows that end within a frame, at each place; beside the error there is nothing.
func TestParseShort(t *testing.T) {
	sameParse(t, "", api.Frame{}, 0, api.ErrShort)
	for _, f := range frames() {
		arb, rest := written(f)
		row := arb + rest
		for n := range len(row) {
			sameParse(t, row[:n], api.Frame{}, 0, api.ErrShort)
		}
		sameParse(t, row, f, len(row), 0)
	}
}

// P3.2: rows of no form, also where they end at the bit that breaks it.
func TestParseForm(t *testing.T) {
	for _, f := range frames() {
		arb, rest := written(f)
		row := "1" + (arb + rest)[1:]
		for n := 1; n <= len(row); n++ {
			sameParse(t, row[:n], api.Frame{}, 0, api.ErrForm)
		}
		if !f.Ext {
			continue
		}
		row = arb[:12] + "0" + arb[13:] + rest
		for n := range len(row) + 1 {
			want := api.ErrForm
			if n < 14 { // that it is Ext is told by the bit behind
				want = api.ErrShort
			}
			sameParse(t, row[:n], api.Frame{}, 0, want)
		}
	}
	sameParse(t, "1", api.Frame{}, 0, api.ErrForm)
	sameParse(t, "0"+id123+"01", api.Frame{}, 0, api.ErrForm)
	sameParse(t, "1"+id123+"01", api.Frame{}, 0, api.ErrForm)
}

// P3.2: a sign that isn't 1 counts as 0, at each place.
func TestParseStrangeSigns(t *testing.T) {
	sameParse(t, "xxxxxxxxxxxxxxxxxxx", api.Frame{}, 19, 0)
	sameParse(t, "x", api.Frame{}, 0, api.ErrShort)
	sameParse(t, "\xb1"+strings.Repeat("1", 38), api.Frame{Ext: true, ID: topEx, RTR: true}, 39, 0)
	sameParse(t, "0"+id123+"x1", api.Frame{}, 0, api.ErrForm)
	r := rand.New(rand.NewSource(2))
	for _, f := range frames() {
		row := Body(f)
		sameParse(t, strange(r, row), f, len(row), 0)
		sameParse(t, strings.ReplaceAll(row, "0", "\x00"), f, len(row), 0)
		cut := r.Intn(len(row))
		sameParse(t, strange(r, row[:cut]), api.Frame{}, 0, api.ErrShort)
	}
}

// wins: who wins bit by bit, as on the wire: a 0 beats a 1.
func wins(a, b api.Frame) int {
	rowA, _ := written(a)
	rowB, _ := written(b)
	for i := range min(len(rowA), len(rowB)) {
		if rowA[i] != rowB[i] {
			if rowA[i] == '0' {
				return -1
			}
			return 1
		}
	}
	return 0
}

// P3.3: from the one that wins over all others down to the one that loses to all.
func TestCmpInOrder(t *testing.T) {
	order := []api.Frame{
		{ID: 0}, {ID: 0, RTR: true},
		{Ext: true, ID: 0}, {Ext: true, ID: 0, RTR: true},
		{Ext: true, ID: 1}, {Ext: true, ID: 1, RTR: true}, {Ext: true, ID: 1<<18 - 1, RTR: true},
		{ID: 1, Data: "x"}, {ID: 1, RTR: true}, // one identifier without and with Ext, without and with RTR
		{Ext: true, ID: 1 << 18, Data: "\xff"}, {Ext: true, ID: 1 << 18, RTR: true},
		{Ext: true, ID: 1<<18 | 5},
		{ID: 2}, {ID: 0x400}, {Ext: true, ID: 0x400 << 18},
		{ID: topID}, {ID: topID, RTR: true},
		{Ext: true, ID: topID << 18}, {Ext: true, ID: topEx}, {Ext: true, ID: topEx, RTR: true},
	}
	for i, a := range order {
		for k, b := range order {
			want := 0
			if i < k {
				want = -1
			} else if i > k {
				want = 1
			}
			same(t, fmt.Sprintf("P3.3: Cmp(%#v, %#v)", a, b), Cmp(a, b), want)
		}
	}
}

// P3.3
func TestCmpOfAllKinds(t *testing.T) {
	all := frames()
	for _, a := range all {
		for _, b := range all {
			if got, want := Cmp(a, b), wins(a, b); got != want {
				t.Errorf("P3.3: Cmp(%#v, %#v): %d, want %d", a, b, got, want)
			}
		}
	}
	r := rand.New(rand.NewSource(3))
	for range 1000 {
		a, b := some(r), some(r)
		same(t, fmt.Sprintf("P3.3: Cmp(%#v, %#v)", a, b), Cmp(a, b), wins(a, b))
		b = a
		b.RTR, b.Data = false, "other"
		same(t, fmt.Sprintf("P3.3: Cmp(%#v, %#v)", a, b), Cmp(a, b), wins(a, b))
		if !a.Ext {
			b.Ext, b.ID = true, a.ID<<18
			same(t, fmt.Sprintf("P3.3: Cmp(%#v, %#v)", a, b), Cmp(a, b), -1)
			same(t, fmt.Sprintf("P3.3: Cmp(%#v, %#v)", b, a), Cmp(b, a), 1)
		}
	}
}

// P3.3: the bytes count for nothing.
func TestCmpSame(t *testing.T) {
	for _, ext := range []bool{false, true} {
		for _, id := range ids(ext) {
			a, b := api.Frame{Ext: ext, ID: id, Data: "\x00"}, api.Frame{Ext: ext, ID: id, Data: "\xff\xff"}
			same(t, fmt.Sprintf("P3.3: Cmp(%#v, %#v)", a, b), Cmp(a, b), 0)
			same(t, fmt.Sprintf("P3.3: Cmp(%#v, %#v)", b, a), Cmp(b, a), 0)
		}
	}
}

// P3.3: what is no frame is on no wire: nobody wins.
func TestCmpNoFrame(t *testing.T) {
	for _, no := range noFrames() {
		for _, f := range append(frames(), noFrames()...) {
			if Cmp(no, f) != 0 || Cmp(f, no) != 0 {
				t.Errorf("P3.3: Cmp of %#v and %#v: %d, %d, want 0, 0", no, f, Cmp(no, f), Cmp(f, no))
			}
		}
	}
}

// P3.3
func TestText(t *testing.T) {
	for _, c := range []struct {
		f    api.Frame
		want string
	}{
		{api.Frame{}, "000#"},
		{api.Frame{ID: 0x123, Data: "\n"}, "123#0A"},
		{api.Frame{ID: 0xab, Data: "\x00\xff\xc9"}, "0AB#00FFC9"},
		{api.Frame{ID: topID, RTR: true}, "7FF#R"},
		{api.Frame{ID: 1, Data: "\x01\x23\x45\x67\x89\xab\xcd\xef"}, "001#0123456789ABCDEF"},
		{api.Frame{Ext: true}, "00000000#"},
		{api.Frame{Ext: true, ID: 1, Data: "\xff"}, "00000001#FF"},
		{api.Frame{Ext: true, ID: 0x12ABCDEF}, "12ABCDEF#"},
		{api.Frame{Ext: true, ID: topEx, RTR: true}, "1FFFFFFF#R"},
	} {
		same(t, fmt.Sprintf("P3.3: Text(%#v)", c.f), Text(c.f), c.want)
	}
	for _, f := range frames() {
		want := fmt.Sprintf("%03X#%X", f.ID, f.Data)
		if f.Ext {
			want = fmt.Sprintf("%08X#%X", f.ID, f.Data)
		}
		if f.RTR {
			want += "R"
		}
		same(t, fmt.Sprintf("P3.3: Text(%#v)", f), Text(f), want)
	}
}

// P3.4: whatever stands behind it.
func TestWrittenIsRead(t *testing.T) {
	all := frames()
	r := rand.New(rand.NewSource(4))
	for range 1000 {
		all = append(all, some(r))
	}
	for _, f := range all {
		row := Body(f)
		for _, behind := range []string{"", "0", "1", "0000000000", "1111111111", "xyz", Body(some(r))} {
			got, n, e := Parse(row + behind)
			if got != f || n != len(row) || e != api.OK {
				t.Errorf("P3.4: %#v is read as %#v, %d, %d, with %q behind it", f, got, n, e, behind)
			}
		}
	}
}

// P3.4: of any row: the frame that is read is one, and as long as what is written of it.
func TestReadOfAnyRow(t *testing.T) {
	r := rand.New(rand.NewSource(5))
	for range 20000 {
		row := make([]byte, r.Intn(120))
		for i := range row {
			row[i] = "0000111x"[r.Intn(8)]
		}
		f, n, e := Parse(string(row))
		if e != api.OK {
			if f != (api.Frame{}) || n != 0 || e != api.ErrShort && e != api.ErrForm {
				t.Fatalf("P3.2: Parse(%q): %#v, %d, %d", row, f, n, e)
			}
			continue
		}
		if !Is(f) || len(Body(f)) != n {
			t.Fatalf("P3.4: Parse(%q): %#v, %d", row, f, n)
		}
	}
}
