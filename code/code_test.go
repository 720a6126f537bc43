package code

import (
	"fmt"
	"math"
	"math/rand"
	"strconv"
	"strings"
	"testing"

	"ostinato/api"
)

const (
	topID = 1<<11 - 1
	topEx = 1<<29 - 1
)

func same(t *testing.T, what string, got, want any) {
	t.Helper()
	if got != want {
		t.Errorf("%s: %#v, want %#v", what, got, want)
	}
}

func sameDecode(t *testing.T, s string, f api.Frame, n int, e api.Errno) {
	t.Helper()
	gotF, gotN, gotE := Decode(s)
	if gotF != f || gotN != n || gotE != e {
		t.Errorf("P4.2: Decode(%.200q) of %d signs: %#v, %d, %d, want %#v, %d, %d", s, len(s), gotF, gotN, gotE, f, n, e)
	}
}

// sameError: beside the error there is no frame.
func sameError(t *testing.T, s string, n int, e api.Errno) {
	t.Helper()
	sameDecode(t, s, api.Frame{}, n, e)
}

func ids(ext bool) []uint32 {
	if ext {
		return []uint32{0, 1, 1<<18 - 1, 1 << 18, 0x123<<18 | 1, 0x0aaaaaaa, 0x15555555, topEx - 1, topEx}
	}
	return []uint32{0, 1, 9, 0x17, 0x123, 0x400, 0x555, 0x2aa, topID - 1, topID}
}

// frames: all kinds, with each count of bytes.
func frames() []api.Frame {
	var all []api.Frame
	for _, ext := range []bool{false, true} {
		for _, id := range ids(ext) {
			all = append(all, api.Frame{Ext: ext, ID: id, RTR: true})
			for n := 0; n <= api.MaxData; n++ {
				for _, data := range []string{"\x00\xff\x80\x01\n#\xc3\xa9", "\x00\x00\x00\x00\x00\x00\x00\x00", "\xff\xff\xff\xff\xff\xff\xff\xff"} {
					all = append(all, api.Frame{Ext: ext, ID: id, Data: data[:n]})
				}
			}
		}
	}
	return all
}

// noFrames: each is beyond one bound, by one or by far.
func noFrames() []api.Frame {
	return []api.Frame{
		{ID: 1 << 11}, {ID: 1 << 28}, {ID: math.MaxUint32}, {ID: 1 << 11, RTR: true},
		{Ext: true, ID: 1 << 29}, {Ext: true, ID: math.MaxUint32}, {Ext: true, ID: 1 << 29, RTR: true},
		{Data: "123456789"}, {Ext: true, Data: "123456789"}, {Data: strings.Repeat("x", 1000)},
		{RTR: true, Data: "x"}, {RTR: true, Data: "123456789"}, {Ext: true, RTR: true, Data: "\x00"},
	}
}

// some: a frame that the source picks.
func some(r *rand.Rand) api.Frame {
	f := api.Frame{Ext: r.Intn(2) == 0, RTR: r.Intn(4) == 0, ID: uint32(r.Intn(1 << 11))}
	if f.Ext {
		f.ID = uint32(r.Intn(1 << 29))
	}
	if !f.RTR {
		b := make([]byte, r.Intn(api.MaxData+1))
		if r.Intn(3) > 0 {
			r.Read(b)
		}
		f.Data = string(b)
	}
	return f
}

// someFrames: all kinds, and n that the source picks.
func someFrames(r *rand.Rand, n int) []api.Frame {
	all := frames()
	for range n {
		all = append(all, some(r))
	}
	return all
}

// written: a frame's body, by other means than the program's.
func written(f api.Frame) string {
	rtr := "0"
	if f.RTR {
		rtr = "1"
	}
	id := fmt.Sprintf("%011b", f.ID)
	row := "0" + id + rtr + "00"
	if f.Ext {
		id = fmt.Sprintf("%029b", f.ID)
		row = "0" + id[:11] + "11" + id[11:] + rtr + "00"
	}
	row += fmt.Sprintf("%04b", len(f.Data))
	for _, b := range []byte(f.Data) {
		row += fmt.Sprintf("%08b", b)
	}
	return row
}

// sum: 15 bits behind the row divided by the sum's polynomial, on paper.
func sum(row string) string {
	rest := []byte(row + strings.Repeat("0", 15))
	for i := range len(row) {
		if rest[i] == '1' {
			for k, c := range []byte("1100010110011001") {
				rest[i+k] ^= c - '0'
			}
		}
	}
	return string(rest[len(row):])
}

// laid: the row with bits laid between, by a look at the end of the text alone.
func laid(row string) string {
	whole := ""
	for _, c := range row {
		whole += string(c)
		if five := endsInFive(whole); five != "" {
			whole += other(five[:1])
		}
	}
	return whole
}

func endsInFive(row string) string {
	for _, five := range []string{"00000", "11111"} {
		if strings.HasSuffix(row, five) {
			return five
		}
	}
	return ""
}

func other(sign string) string {
	if sign == "1" {
		return "0"
	}
	return "1"
}

func turned(row string, at int) string { return row[:at] + other(row[at:at+1]) + row[at+1:] }

// sent: a frame up to its sum, or the bit laid behind that, and all of it.
func sent(f api.Frame) (part, whole string) {
	body := written(f)
	part = laid(body + sum(body))
	return part, part + "1111111111"
}

// strange: the row with each 0 that the source picks written by another sign that isn't 1.
func strange(r *rand.Rand, row string) string {
	const signs = "0x\x00\xff /2\x81\xb1O"
	b := []byte(row)
	for i := range b {
		if b[i] == '0' {
			b[i] = signs[r.Intn(len(signs))]
		}
	}
	return string(b)
}

func number(row string) uint64 {
	n, _ := strconv.ParseUint(row, 2, 64)
	return n
}

// need: how many bits a body has at least that begins so, and the frame, when they are all there; -1: it has no form.
func need(left string) (int, api.Frame) {
	if left[0] == '1' {
		return -1, api.Frame{}
	}
	if len(left) < 14 {
		return 14, api.Frame{}
	}
	ext := left[13] == '1'
	if ext && left[12] == '0' {
		return -1, api.Frame{}
	}
	head, rtrAt, id := 19, 12, left[1:12]
	if ext {
		head, rtrAt = 39, 32
	}
	if len(left) < head {
		return head, api.Frame{}
	}
	if ext {
		id += left[14:32]
	}
	f := api.Frame{Ext: ext, RTR: left[rtrAt] == '1', ID: uint32(number(id))}
	if f.RTR {
		return head, f
	}
	whole := head + 8*int(min(number(left[head-4:head]), 8))
	for at := head; at < whole && whole <= len(left); at += 8 {
		f.Data += string([]byte{byte(number(left[at : at+8]))})
	}
	return whole, f
}

// taken: what Decode must tell: a receiver that knows the bits so far and looks at one after the other.
func taken(s string) (api.Frame, int, api.Errno) {
	came, left, wholeSum := "", "", ""
	var f api.Frame
	ended := 0 // bits behind the sum
	for at := range len(s) {
		bit := "0"
		if s[at] == '1' {
			bit = "1"
		}
		five := endsInFive(came)
		came += bit
		if five != "" && ended == 0 {
			if bit == five[:1] {
				return api.Frame{}, at, api.ErrStuff
			}
			continue
		}
		if wholeSum == "" {
			left += bit
			n, whole := need(left)
			if n < 0 {
				return api.Frame{}, at, api.ErrForm
			}
			if len(left) == n+15 {
				f, wholeSum = whole, left[n:]
				left = left[:n]
			}
			continue
		}
		ended++
		if bit == "0" && ended != 2 {
			return api.Frame{}, at, api.ErrForm
		}
		if ended == 3 && wholeSum != sum(left) {
			return api.Frame{}, at, api.ErrCRC
		}
		if ended == 10 {
			return f, at + 1, api.OK
		}
	}
	return api.Frame{}, len(s), api.ErrShort
}

func sameAsTaken(t *testing.T, s string) api.Errno {
	t.Helper()
	f, n, e := taken(s)
	sameDecode(t, s, f, n, e)
	return e
}

// P4.1: rows written out by hand.
func TestEncode(t *testing.T) {
	for _, c := range []struct {
		f    api.Frame
		part string
	}{
		{api.Frame{ID: 0x123}, "000100100011" + "00000100" + "110100001011000"},
		{api.Frame{}, "00000100000100" + "00010000" + "010000010000010000"},
		{api.Frame{ID: topID, RTR: true}, "01111101111101" + "10000010" + "101010011101010"},
		{api.Frame{ID: 9}, "0000010001001" + "00000100" + "111110000011000001"},
		{api.Frame{ID: 0x17}, "0000010010111" + "00000100" + "1010010000111110"},
		{api.Frame{Ext: true, ID: 0x12345678, Data: "\x00\xff"}, "01001000110111000101011001111000001" + "000100000100001111101" + "11011001111011000"},
	} {
		what := fmt.Sprintf("(%#v)", c.f)
		same(t, "P4.1: Encode"+what, Encode(c.f), c.part+"1"+"1"+"1"+"1111111")
		same(t, "P4.1: Acked"+what, Acked(c.f), c.part+"1"+"0"+"1"+"1111111")
		same(t, "P4.1: Len"+what, Len(c.f), len(c.part)+10)
	}
}

// P4.1
func TestEncodeAllKinds(t *testing.T) {
	r := rand.New(rand.NewSource(1))
	for _, f := range someFrames(r, 1000) {
		part, whole := sent(f)
		what := fmt.Sprintf("(%#v)", f)
		same(t, "P4.1: Encode"+what, Encode(f), whole)
		same(t, "P4.1: Acked"+what, Acked(f), part+"1011111111")
		same(t, "P4.1: Len"+what, Len(f), len(whole))
		if !f.Ext && Len(f) > api.FrameBits {
			t.Errorf("P4.1: Len%s: %d, more than FrameBits", what, Len(f))
		}
	}
}

// P4.1: what is no frame is no row.
func TestEncodeNoFrame(t *testing.T) {
	for _, f := range noFrames() {
		what := fmt.Sprintf("(%#v)", f)
		same(t, "P4.1: Encode"+what, Encode(f), "")
		same(t, "P4.1: Acked"+what, Acked(f), "")
		same(t, "P4.1: Len"+what, Len(f), 0)
	}
}

// P4.2: rows written out by hand, of an error each.
func TestDecodeErrors(t *testing.T) {
	const part = "0001001000110000010011010000101100"
	for _, c := range []struct {
		s string
		n int
		e api.Errno
	}{
		{"", 0, api.ErrShort}, {"0", 1, api.ErrShort}, {"x", 1, api.ErrShort}, {"00000", 5, api.ErrShort}, {"000001", 6, api.ErrShort},
		{"1", 0, api.ErrForm}, {"1111111", 0, api.ErrForm}, {"10", 0, api.ErrForm},
		{"000000", 5, api.ErrStuff}, {"0000001", 5, api.ErrStuff}, {"xxxxxx", 5, api.ErrStuff}, {"0111111", 6, api.ErrStuff},
		{"0000010000011", 13, api.ErrShort}, {"00000100000101", 14, api.ErrShort},
		{"0" + "00100100011" + "01", 13, api.ErrForm}, {"0" + "00100100011" + "01" + "111111", 13, api.ErrForm},
		{"0" + "00100100011" + "0", 13, api.ErrShort}, {"0" + "00100100011" + "x1", 13, api.ErrForm},
		{"0" + "11111011111" + "000" + "1", 15, api.ErrForm}, // two bits are laid ahead of it
		{"0" + "10101010000" + "01" + "1", 14, api.ErrForm},  // one is laid right ahead of it
		{"0" + "111110110000" + "01" + "1", 15, api.ErrForm}, // and another one
		{"0" + "10101010000" + "01" + "0", 15, api.ErrShort}, // not Ext
		{"0" + "10101010000" + "00" + "1", 13, api.ErrStuff}, // this is the laid one itself
		{part + "0" + "0111111111", 35, api.ErrForm}, {part + "0" + "1101111111", 37, api.ErrForm}, {part + "0" + "1111111110", 44, api.ErrForm},
		{part + "1" + "0111111111", 35, api.ErrForm}, // another sum is met only behind this one
		{part + "1" + "1101111111", 37, api.ErrForm}, // and not if the third one is a 0
		{part + "1" + "1111111111", 37, api.ErrCRC}, {part + "1" + "1011111111", 37, api.ErrCRC},
		{part + "1" + "111", 37, api.ErrCRC}, {part + "1" + "11", 37, api.ErrShort},
		{part + "1" + "111000000", 37, api.ErrCRC},
	} {
		sameError(t, c.s, c.n, c.e)
		sameAsTaken(t, c.s)
	}
	sameDecode(t, part+"0"+"1111111111", api.Frame{ID: 0x123}, 45, api.OK)
	sameDecode(t, part+"0"+"1011111111", api.Frame{ID: 0x123}, 45, api.OK)
}

// P4.2: a row that ends at each place of a frame.
func TestDecodeShort(t *testing.T) {
	for _, f := range frames() {
		part, whole := sent(f)
		for _, row := range []string{whole, part + "1011111111"} {
			for n := range len(row) {
				sameError(t, row[:n], n, api.ErrShort)
			}
			sameDecode(t, row, f, len(row), api.OK)
		}
	}
}

// P4.2: each of the ten bits behind the sum turned; the second one may be either.
func TestDecodeEnds(t *testing.T) {
	r := rand.New(rand.NewSource(2))
	for _, f := range someFrames(r, 300) {
		part, whole := sent(f)
		for i := range 10 {
			at := len(part) + i
			row := turned(whole, at)
			if i == 1 {
				sameDecode(t, row, f, len(row), api.OK)
				continue
			}
			sameError(t, row, at, api.ErrForm)
			sameError(t, row[:at+1], at, api.ErrForm)
			sameError(t, row+row, at, api.ErrForm)
			sameError(t, turned(row, len(part)+1), at, api.ErrForm)
			if i < 9 { // the first one is told
				sameError(t, turned(row, len(part)+9), at, api.ErrForm)
			}
		}
	}
}

// P4.2: another sum, by each of its bits and by some; it is told at the third bit behind it, and there only of a 1.
func TestDecodeSum(t *testing.T) {
	r := rand.New(rand.NewSource(3))
	for _, f := range someFrames(r, 300) {
		body := written(f)
		sums := []string{fmt.Sprintf("%015b", r.Intn(1<<15))}
		for i := range 15 {
			sums = append(sums, turned(sum(body), i))
		}
		for _, another := range sums {
			if another == sum(body) {
				continue
			}
			part := laid(body + another)
			at := len(part) + 2
			sameError(t, part+"1111111111", at, api.ErrCRC)
			sameError(t, part+"1011111111", at, api.ErrCRC)
			sameError(t, part+"111", at, api.ErrCRC)
			sameError(t, part+"1110000000", at, api.ErrCRC)
			sameError(t, part+"11", at, api.ErrShort)
			sameError(t, part+"1101111111", at, api.ErrForm)
			sameError(t, part+"0111111111", len(part), api.ErrForm)
		}
	}
}

// P4.2: a bit of the body turned is another sum, if nothing else is met.
func TestDecodeBodyTurned(t *testing.T) {
	r := rand.New(rand.NewSource(4))
	met := map[api.Errno]int{}
	for _, f := range someFrames(r, 100) {
		part, whole := sent(f)
		for at := range part {
			e := sameAsTaken(t, turned(whole, at))
			if e == api.OK {
				t.Errorf("P4.2: %#v is taken with bit %d turned", f, at)
			}
			met[e]++
		}
	}
	for _, e := range []api.Errno{api.ErrForm, api.ErrStuff, api.ErrCRC} {
		if met[e] == 0 {
			t.Errorf("P4.2: %d is met nowhere", e)
		}
	}
}

// P4.2: where five alike are, the same once more, at each place up to the one laid behind the sum.
func TestDecodeSixAlike(t *testing.T) {
	r := rand.New(rand.NewSource(5))
	places, behindSum := map[int]bool{}, map[string]int{}
	for _, f := range someFrames(r, 4000) {
		part, whole := sent(f)
		for at := range part {
			five := endsInFive(part[:at])
			if five == "" {
				continue
			}
			places[at] = true
			row := turned(whole, at)
			sameError(t, row, at, api.ErrStuff)
			sameError(t, row[:at+1], at, api.ErrStuff)
			sameError(t, turned(row, len(part)), at, api.ErrStuff)
			if at == len(part)-1 {
				behindSum[five]++
			}
		}
	}
	for at := 5; at < 120; at++ {
		if !places[at] {
			t.Errorf("P4.2: no six alike were tried at %d", at)
		}
	}
	if behindSum["00000"] == 0 || behindSum["11111"] == 0 {
		t.Errorf("P4.2: six alike tried behind the sum: %v", behindSum)
	}
}

// P4.2: six alike written over a frame at each place: fields change with that, and how long it is.
func TestDecodeSixWrittenOver(t *testing.T) {
	for _, f := range frames() {
		_, whole := sent(f)
		for at := 0; at+6 <= len(whole); at++ {
			for _, six := range []string{"000000", "111111"} {
				row := whole[:at] + six + whole[at+6:]
				sameAsTaken(t, row)
				sameAsTaken(t, row[:at+6])
			}
		}
	}
}

// P4.2: the bit laid behind the sum's last one, of each kind, and one alike there; without one the ends may be alike with the sum.
func TestDecodeBehindSum(t *testing.T) {
	for id, laidBit := range map[uint32]string{9: "1", 0x17: "0"} {
		f := api.Frame{ID: id}
		part, whole := sent(f)
		last := len(part) - 1
		same(t, "a test's frame: its last bit", part[last:], laidBit)
		sameDecode(t, whole, f, len(whole), api.OK)
		sameError(t, whole[:last], last, api.ErrShort)
		sameError(t, whole[:last+1], last+1, api.ErrShort)
		sameError(t, turned(whole, last), last, api.ErrStuff)
		sameError(t, turned(whole, last)[:last+1], last, api.ErrStuff)
		sameError(t, turned(whole, last+1), last+1, api.ErrForm)
		left := whole[:last] + whole[last+1:] // a sender that laid none
		if laidBit == "1" {
			sameError(t, left, len(left), api.ErrShort) // the first of the ends counts as the laid one
		} else {
			sameError(t, left, last, api.ErrStuff)
		}
		another := laid(written(f) + turned(sum(written(f)), 3))
		same(t, "a test's sum: its last bit", another[len(another)-1:], laidBit)
		sameError(t, another+"1111111111", len(another)+2, api.ErrCRC)
		sameError(t, turned(another+"1111111111", len(another)-1), len(another)-1, api.ErrStuff)
	}
	ones := 0
	for id := range uint32(1 << 11) {
		f := api.Frame{ID: id}
		part, whole := sent(f)
		if strings.HasSuffix(part, "01111") {
			ones++
			sameDecode(t, whole, f, len(whole), api.OK)
		}
	}
	if ones == 0 {
		t.Errorf("P4.2: no sum was tried that ends in four 1s")
	}
}

// P4.2: a first bit 1, whatever stands behind it.
func TestDecodeFirstBit(t *testing.T) {
	for _, f := range frames() {
		_, whole := sent(f)
		row := "1" + whole[1:]
		for n := 1; n <= len(row); n++ {
			sameError(t, row[:n], 0, api.ErrForm)
		}
	}
}

// P4.2: with Ext the bit behind the first 11 a 0: the error is met with the one that tells Ext, wherever laid bits bring that.
func TestDecodeNoExt(t *testing.T) {
	places := map[int]bool{}
	for id := range 1 << 11 {
		head := "0" + fmt.Sprintf("%011b", id)
		at := len(laid(head + "0"))
		places[at] = true
		row := laid(head + "01" + "000000000000000001" + "00000000" + "101010101010101")
		sameError(t, row+"1111111111", at, api.ErrForm)
		sameError(t, row[:at+1], at, api.ErrForm)
		sameError(t, row[:at], at, api.ErrShort)
	}
	for at := 13; at <= 15; at++ {
		if !places[at] {
			t.Errorf("P4.2: no form was broken at %d", at)
		}
	}
}

// P4.2: the sum is of the bits that came, also where no sender writes them so.
func TestDecodeWhatMayBeAnything(t *testing.T) {
	const low1 = "000000000000000001"
	bytes := ""
	for _, b := range []byte("12345678") {
		bytes += fmt.Sprintf("%08b", b)
	}
	try := func(body string, f api.Frame) {
		t.Helper()
		part := laid(body + sum(body))
		for _, ends := range []string{"1111111111", "1011111111"} {
			sameDecode(t, part+ends, f, len(part)+10, api.OK)
			sameDecode(t, part+ends+bytes, f, len(part)+10, api.OK)
			sameError(t, part+ends[:9], len(part)+9, api.ErrShort)
		}
		if own := sum(written(f)); own != sum(body) { // the sum of the bits that a sender would have written
			part = laid(body + own)
			sameError(t, part+"1111111111", len(part)+2, api.ErrCRC)
		}
	}
	for count := range 16 {
		told, n := fmt.Sprintf("%04b", count), min(count, 8)
		for _, spare := range []string{"00", "01", "10", "11"} {
			try("0"+"00100100011"+"00"+spare[:1]+told+bytes[:8*n], api.Frame{ID: 0x123, Data: "12345678"[:n]})
			try("0"+"00100100011"+"10"+spare[:1]+told, api.Frame{ID: 0x123, RTR: true})
			try("0"+"00100100011"+"11"+low1+"0"+spare+told+bytes[:8*n], api.Frame{Ext: true, ID: 0x123<<18 | 1, Data: "12345678"[:n]})
			try("0"+"00100100011"+"11"+low1+"1"+spare+told, api.Frame{Ext: true, ID: 0x123<<18 | 1, RTR: true})
		}
	}
}

// P4.2: a sign that isn't 1 counts as 0, at each place.
func TestDecodeStrangeSigns(t *testing.T) {
	r := rand.New(rand.NewSource(6))
	for _, f := range someFrames(r, 300) {
		row := Acked(f)
		sameDecode(t, strange(r, row), f, len(row), api.OK)
		sameDecode(t, strings.ReplaceAll(row, "0", "\x00"), f, len(row), api.OK)
		cut := r.Intn(len(row))
		sameError(t, strange(r, row[:cut]), cut, api.ErrShort)
		at := r.Intn(len(row))
		sameAsTaken(t, strange(r, turned(row, at)))
	}
	sameError(t, "\xb1\x00x23 1", 5, api.ErrStuff)
}

// P4.2: any rows, of all lengths; what is told is what the receiver of the test tells, and nothing panics.
func TestDecodeAnyRow(t *testing.T) {
	r := rand.New(rand.NewSource(7))
	for range 30000 {
		row := ""
		for n := r.Intn(220); len(row) < n; {
			row += strings.Repeat(string("01x"[r.Intn(3)]), 1+r.Intn(3))
		}
		sameAsTaken(t, "0"+row)
		sameAsTaken(t, row)
		sameAsTaken(t, laid("0"+strings.ReplaceAll(row, "x", "0")))
	}
	for range 10000 { // frames that were hit more than once
		row := Acked(some(r))
		for range 1 + r.Intn(3) {
			row = turned(row, r.Intn(len(row)))
		}
		sameAsTaken(t, row)
		sameAsTaken(t, row+Encode(some(r)))
	}
}

// filled: each `?` is as the bit ahead of it on the wire, so that no row has more laid between.
func filled(row string) string {
	body := ""
	for _, c := range row {
		if c == '?' {
			wire := laid(body)
			body += wire[len(wire)-1:]
			continue
		}
		body += string(c)
	}
	return body
}

// P4.2: frames with as many bits laid between as there can be, with a right sum and with another one.
func TestDecodeLongest(t *testing.T) {
	anything := func(n int) string { return strings.Repeat("?", n) }
	most := 0
	for last := range 1 << 8 { // the sum hangs on them
		body := filled("0" + anything(11) + "11" + anything(18) + "0" + anything(2) + "1???" + anything(56) + fmt.Sprintf("%08b", last))
		part := laid(body + sum(body))
		most = max(most, len(part))
		same(t, "P4.2: a long frame", sameAsTaken(t, part+"1111111111"), api.OK)
		same(t, "P4.2: a long frame with bits behind", sameAsTaken(t, part+"10111111111010101010"), api.OK)
		same(t, "P4.2: a long frame cut", sameAsTaken(t, part+"111111111"), api.ErrShort)
	}
	if most < 140 {
		t.Errorf("P4.2: no frame was tried that has more than %d bits ahead of its ends", most)
	}
	part := laid(filled("0" + anything(11) + "11" + anything(18) + "0" + anything(2) + "1???" + anything(64+15)))
	if len(part) < 144 {
		t.Errorf("P4.2: no row was tried that has more than %d bits ahead of its ends", len(part))
	}
	sameError(t, part+"1111111111", len(part)+2, api.ErrCRC)
	sameError(t, part+"1101111111", len(part)+2, api.ErrForm)
	sameError(t, part+"11", len(part)+2, api.ErrShort)
}

// P4.2: rows far longer than a frame.
func TestDecodeLongRow(t *testing.T) {
	f := api.Frame{Ext: true, ID: 0x123, Data: "12345678"}
	row := Encode(f)
	for _, behind := range []string{strings.Repeat("10", 1<<20), strings.Repeat("0", 1<<20), strings.Repeat("1", 1<<20), strings.Repeat("\xff", 1<<20)} {
		sameDecode(t, row+behind, f, len(row), api.OK)
		sameAsTaken(t, "0"+behind)
		sameAsTaken(t, row[:20]+behind)
		sameAsTaken(t, row[:len(row)-10]+behind)
	}
}

// P4.3: as it goes out, and as it comes to whoever took it; whatever stands behind it.
func TestSentIsTaken(t *testing.T) {
	r := rand.New(rand.NewSource(8))
	for _, f := range someFrames(r, 1000) {
		for _, row := range []string{Encode(f), Acked(f)} {
			for _, behind := range []string{"", "0", "1", "000000", "111", "1111111111", "xyz", Acked(some(r))} {
				got, n, e := Decode(row + behind)
				if got != f || n != Len(f) || e != api.OK {
					t.Errorf("P4.3: %#v is taken as %#v, %d, %d, with %q behind it", f, got, n, e, behind)
				}
			}
		}
	}
}
