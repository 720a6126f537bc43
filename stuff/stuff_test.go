package stuff

import (
	"fmt"
	"math"
	"math/rand"
	"strings"
	"testing"
)

// rowsUpTo: every row of at most n bits, the empty one first.
func rowsUpTo(n int) []string {
	rows := []string{""}
	for i := 0; len(rows[i]) < n; i++ {
		rows = append(rows, rows[i]+"0", rows[i]+"1")
	}
	return rows
}

// longRuns: a row of some hundred bits, with runs of up to nine alike.
func longRuns(r *rand.Rand) string {
	var b strings.Builder
	for n := r.Intn(300); b.Len() < n; {
		b.WriteString(strings.Repeat(string("01"[r.Intn(2)]), 1+r.Intn(9)))
	}
	return b.String()
}

// strange: the row with each 0 that the source picks written by another sign that isn't 1.
func strange(r *rand.Rand, row string) string {
	const other = "0x\x00\xff /2\x81\xb1O"
	b := []byte(row)
	for i := range b {
		if b[i] == '0' {
			b[i] = other[r.Intn(len(other))]
		}
	}
	return string(b)
}

// laid: what Stuff must tell, by a look at the end of the text alone; bare is it without a bit laid behind the last one.
func laid(row string) (whole, bare string) {
	for _, c := range row {
		whole += string(c)
		bare = whole
		if strings.HasSuffix(whole, "00000") {
			whole += "1"
		} else if strings.HasSuffix(whole, "11111") {
			whole += "0"
		}
	}
	return whole, bare
}

// sixth: the place of the first bit that is the sixth alike, by a search in the text.
func sixth(s string) int {
	at := -1
	for _, six := range []string{"000000", "111111"} {
		if i := strings.Index(s, six); i >= 0 && (at < 0 || i+5 < at) {
			at = i + 5
		}
	}
	return at
}

func same(t *testing.T, what string, got, want any) {
	t.Helper()
	if got != want {
		t.Errorf("%s: %#v, want %#v", what, got, want)
	}
}

func sameUnstuff(t *testing.T, s, want string, wantAt int) {
	t.Helper()
	left, at := Unstuff(s)
	same(t, fmt.Sprintf("P2.1: Unstuff(%q)", s), left, want)
	same(t, fmt.Sprintf("P2.1: place of Unstuff(%q)", s), at, wantAt)
}

// P2.1
func TestStuff(t *testing.T) {
	for _, c := range []struct{ s, want string }{
		{"", ""}, {"0", "0"}, {"1", "1"},
		{"0101100111", "0101100111"},
		{"0000", "0000"}, {"1111", "1111"},
		{"00000", "000001"}, {"11111", "111110"}, // behind the last one, too
		{"0100000", "01000001"},
		{"000000", "0000010"}, {"000001", "0000011"}, {"111110", "1111100"},
		{"0000000000", "000001000001"},
		{"000001111", "00000111110"},                       // the laid 1 is the first of five
		{"0000011110000", "0000011111000001"},              // and so on
		{"1111100001111", "1111100000111110"},              //
		{"00000111", "000001111"},                          // four of them aren't five
		{"xxxxx", "000001"}, {"1x\xff\x001", "1000" + "1"}, // other signs are 0s
		{"a0b0c0", "0000010"}, {"2222", "0000"},
	} {
		same(t, fmt.Sprintf("P2.1: Stuff(%q)", c.s), Stuff(c.s), c.want)
	}
	for _, row := range rowsUpTo(14) {
		want, _ := laid(row)
		same(t, fmt.Sprintf("P2.1: Stuff(%q)", row), Stuff(row), want)
	}
	r := rand.New(rand.NewSource(1))
	for range 500 {
		row := longRuns(r)
		want, _ := laid(row)
		same(t, fmt.Sprintf("P2.1: Stuff(%q)", row), Stuff(row), want)
		same(t, fmt.Sprintf("P2.1: Stuff(%q) in strange signs", row), Stuff(strange(r, row)), want)
	}
}

// P2.1
func TestUnstuff(t *testing.T) {
	for _, c := range []struct {
		s, want string
		at      int
	}{
		{"", "", -1}, {"0", "0", -1}, {"0110", "0110", -1},
		{"000001", "00000", -1}, {"111110", "11111", -1},
		{"00000", "00000", -1}, {"0111110000", "011111000", -1}, // the last laid bit is missing
		{"0000011111", "000001111", -1}, {"00000111110", "000001111", -1},
		{"0000010", "000000", -1},
		{"000000", "00000", 5}, {"111111", "11111", 5}, // at first
		{"0111111", "011111", 6}, {"00000111111", "000001111", 10}, // later
		{"000001000000", "0000000000", 11},
		{"0000001", "00000", 5}, {"000000111111", "00000", 5}, {"0000000000", "00000", 5}, // what is behind it counts for nothing
		{"11111011111", "1111111111", -1}, {"111110111111", "1111111111", 11},
		{"xxxxx", "00000", -1}, {"xxxxxx", "00000", 5}, {"xxxxx1", "00000", -1}, {"x0x0xa1", "00000", 5},
		{"\xff1\x00", "010", -1},
	} {
		sameUnstuff(t, c.s, c.want, c.at)
	}
}

// P2.1: of every row that comes of Stuff, whole or without the last laid bit, and of every other one.
func TestUnstuffEveryRow(t *testing.T) {
	from := map[string]string{}
	for _, row := range rowsUpTo(14) {
		whole, bare := laid(row)
		from[whole], from[bare] = row, row
	}
	for _, s := range rowsUpTo(14) {
		at := sixth(s)
		ahead := s
		if at >= 0 {
			ahead = s[:at]
		}
		want, known := from[ahead]
		if !known {
			t.Fatalf("%q comes of no row", ahead)
		}
		sameUnstuff(t, s, want, at)
	}
}

// P2.1: what was laid goes out again; a turned bit may make a sixth alike.
func TestUnstuffLongRows(t *testing.T) {
	r := rand.New(rand.NewSource(2))
	for range 500 {
		row := longRuns(r)
		whole, bare := laid(row)
		sameUnstuff(t, whole, row, -1)
		sameUnstuff(t, bare, row, -1)
		sameUnstuff(t, strange(r, whole), row, -1)
		_, at := Unstuff(row)
		same(t, fmt.Sprintf("P2.1: place of Unstuff(%q)", row), at, sixth(row))
	}
}

// P2.1
func TestNext(t *testing.T) {
	for s, want := range map[string]int{
		"": -1, "0": -1, "1": -1, "0000": -1, "1111": -1,
		"00000": 1, "11111": 0, "100000": 1, "011111": 0,
		"000001": -1, "111110": -1, "0000011": -1,
		"000001111": -1, "0000011111": 0, "00000111110": -1, "1111100000": 1,
		"000000": -2, "111111": -2, "0000001": -2, "1000000": -2, "00000011111": -2, "00000111111": -2, "00000000000": -2,
		"xxxx": -1, "xxxxx": 1, "xxxxxx": -2, "1xx\x00\xff2": 1, "xxxxx1": -1,
	} {
		same(t, fmt.Sprintf("P2.1: Next(%q)", s), Next(s), want)
	}
	for _, s := range rowsUpTo(14) {
		want := -1
		switch {
		case sixth(s) >= 0:
			want = -2
		case strings.HasSuffix(s, "00000"):
			want = 1
		case strings.HasSuffix(s, "11111"):
			want = 0
		}
		same(t, fmt.Sprintf("P2.1: Next(%q)", s), Next(s), want)
	}
}

// P2.1: a row as it comes: where Next tells a bit, that one stands next in what Stuff laid.
func TestNextAsItComes(t *testing.T) {
	r := rand.New(rand.NewSource(3))
	for range 200 {
		row := longRuns(r)
		whole := Stuff(row)
		told := 0
		for i := range len(whole) {
			if next := Next(whole[:i]); next != -1 {
				told++
				same(t, fmt.Sprintf("P2.1: Next(%q)", whole[:i]), next, int(whole[i]-'0'))
			}
		}
		same(t, fmt.Sprintf("P2.1: bits that Next tells in %q", whole), told, len(whole)-len(row))
	}
}

// P2.1
func TestMost(t *testing.T) {
	for n, want := range map[int]int{
		math.MinInt: 0, math.MinInt32: 0, -1: 0, 0: 0, 1: 1,
		4: 4, 5: 6, 6: 7, 8: 9, 9: 11, 12: 14, 13: 16,
		9999: 9999 + 1 + 2498, 10000: 12499, 10001: 12499, math.MaxInt32: 12499, math.MaxInt: 12499,
	} {
		same(t, fmt.Sprintf("P2.1: Most(%d)", n), Most(n), want)
	}
	longest := map[int]int{}
	for _, row := range rowsUpTo(14) {
		longest[len(row)] = max(longest[len(row)], len(Stuff(row)))
	}
	for n, want := range longest {
		same(t, fmt.Sprintf("P2.1: Most(%d) against all rows", n), Most(n), want)
	}
	worst := "00000" + strings.Repeat("11110000", 1250)
	for n := 0; n <= 10000; n += 7 {
		same(t, fmt.Sprintf("P2.1: Most(%d) against the worst row", n), Most(n), len(Stuff(worst[:n])))
	}
}

// P2.2
func TestNoSixAlike(t *testing.T) {
	hold := func(row string) {
		t.Helper()
		if got := Stuff(row); sixth(got) >= 0 {
			t.Errorf("P2.2: Stuff(%q): %q has six alike", row, got)
		}
	}
	for _, row := range rowsUpTo(14) {
		hold(row)
		hold(strings.Replace(row, "0", "x", 1))
	}
	for n := range 200 {
		hold(strings.Repeat("0", n))
		hold(strings.Repeat("1", n))
		hold(strings.Repeat("x", n))
	}
	r := rand.New(rand.NewSource(4))
	for range 1000 {
		hold(longRuns(r))
		hold(strange(r, longRuns(r)))
	}
}
