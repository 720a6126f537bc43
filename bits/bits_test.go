package bits

import (
	"fmt"
	"math"
	"math/big"
	"math/rand"
	"strings"
	"testing"
)

// allBytes: every sign that there can be.
func allBytes() string {
	b := make([]byte, 256)
	for i := range b {
		b[i] = byte(i)
	}
	return string(b)
}

// rowsUpTo: every row of at most n bits, the empty one first.
func rowsUpTo(n int) []string {
	rows := []string{""}
	for i := 0; len(rows[i]) < n; i++ {
		rows = append(rows, rows[i]+"0", rows[i]+"1")
	}
	return rows
}

// signs: a row of n signs, many of which are neither 0 nor 1.
func signs(r *rand.Rand, n int) string {
	const some = "01101x\x00\xff /2\x81\xb1O"
	b := make([]byte, n)
	for i := range b {
		b[i] = some[r.Intn(len(some))]
	}
	return string(b)
}

// plain: s as the document reads it, by other means than the program's.
func plain(s string) string {
	var b strings.Builder
	for _, c := range []byte(s) {
		if c == '1' {
			b.WriteString("1")
		} else {
			b.WriteString("0")
		}
	}
	return b.String()
}

func same(t *testing.T, what string, got, want any) {
	t.Helper()
	if got != want {
		t.Errorf("%s: %#v, want %#v", what, got, want)
	}
}

// P1.1
func TestIs(t *testing.T) {
	for _, s := range rowsUpTo(6) {
		same(t, fmt.Sprintf("P1.1: Is(%q)", s), Is(s), true)
	}
	for _, c := range []byte(allBytes()) {
		want := c == '0' || c == '1'
		for _, s := range []string{string([]byte{c}), "01" + string([]byte{c}), string([]byte{c}) + "10", "1" + string([]byte{c}) + "0"} {
			same(t, fmt.Sprintf("P1.1: Is(%q)", s), Is(s), want)
		}
	}
	same(t, "P1.1: Is of a long row", Is(strings.Repeat("10", 1000)), true)
	same(t, "P1.1: Is of a long row that ends in another sign", Is(strings.Repeat("10", 1000)+" "), false)
}

// P1.1
func TestOf(t *testing.T) {
	for _, n := range []uint64{0, 1, 2, 6, 0x80, 0xff, 0x100, 0x0123456789abcdef, 1 << 63, math.MaxUint64} {
		full := fmt.Sprintf("%064b", n)
		for width := 0; width <= 64; width++ {
			same(t, fmt.Sprintf("P1.1: Of(%#x, %d)", n, width), Of(n, width), full[64-width:])
		}
		for _, width := range []int{-1, -64, math.MinInt32, math.MinInt} {
			same(t, fmt.Sprintf("P1.1: Of(%#x, %d)", n, width), Of(n, width), "")
		}
		for _, width := range []int{65, 128, math.MaxInt32, math.MaxInt} {
			same(t, fmt.Sprintf("P1.1: Of(%#x, %d)", n, width), Of(n, width), full)
		}
	}
	same(t, "P1.1: Of(6, 4)", Of(6, 4), "0110")
	same(t, "P1.1: Of(6, 2)", Of(6, 2), "10")
}

// P1.1
func TestNum(t *testing.T) {
	for s, want := range map[string]uint64{
		"":                             0,
		"0":                            0,
		"1":                            1,
		"0110":                         6,
		"0000110":                      6,
		"x1y":                          2,
		"\xb1\x311":                    3,
		"2":                            0,
		strings.Repeat("1", 64):        math.MaxUint64,
		strings.Repeat("1", 65):        math.MaxUint64,
		"1" + strings.Repeat("0", 63):  1 << 63,
		"1" + strings.Repeat("0", 64):  0,
		"11" + strings.Repeat("0", 63): 1 << 63,
		strings.Repeat("1", 64) + "0":  math.MaxUint64 - 1,
	} {
		same(t, fmt.Sprintf("P1.1: Num(%q)", s), Num(s), want)
	}
	r := rand.New(rand.NewSource(1))
	for range 500 {
		s := signs(r, r.Intn(200))
		want, _ := new(big.Int).SetString("0"+plain(s), 2)
		want.And(want, new(big.Int).SetUint64(math.MaxUint64))
		same(t, fmt.Sprintf("P1.1: Num(%q)", s), Num(s), want.Uint64())
		n := r.Uint64()
		same(t, "P1.1: Num of Of", Num(Of(n, 64)), n)
	}
}

// P1.1
func TestAnd(t *testing.T) {
	for _, c := range []struct{ a, b, want string }{
		{"", "", ""}, {"", "1", ""}, {"1", "", ""},
		{"0011", "0101", "0001"},
		{"1111", "10", "10"}, {"10", "1111", "10"},
		{"1x1", "111", "101"}, {"111", "1x1", "101"},
		{"ab", "cd", "00"}, {"\xb1", "1", "0"}, {"3", "1", "0"},
	} {
		same(t, fmt.Sprintf("P1.1: And(%q, %q)", c.a, c.b), And(c.a, c.b), c.want)
	}
	for _, c := range []byte(allBytes()) {
		want := plain(string([]byte{c}))
		same(t, fmt.Sprintf("P1.1: And(%q, 1)", c), And(string([]byte{c}), "1"), want)
		same(t, fmt.Sprintf("P1.1: And(1, %q)", c), And("1", string([]byte{c})), want)
		same(t, fmt.Sprintf("P1.1: And(%q, 0)", c), And(string([]byte{c}), "0"), "0")
	}
	r := rand.New(rand.NewSource(2))
	for range 500 {
		a, b := signs(r, r.Intn(90)), signs(r, r.Intn(90))
		want := make([]byte, min(len(a), len(b)))
		for i := range want {
			want[i] = min(plain(a)[i], plain(b)[i])
		}
		same(t, fmt.Sprintf("P1.1: And(%q, %q)", a, b), And(a, b), string(want))
	}
}

// P1.1
func TestTurn(t *testing.T) {
	for _, c := range []struct {
		s    string
		at   int
		want string
	}{
		{"0", 0, "1"}, {"1", 0, "0"},
		{"010", 0, "110"}, {"010", 1, "000"}, {"010", 2, "011"},
		{"010", 3, "010"}, {"010", -1, "010"},
		{"010", math.MaxInt, "010"}, {"010", math.MinInt, "010"},
		{"ab", 0, "10"}, {"ab", 1, "01"}, {"ab", 2, "00"}, {"ab", -1, "00"},
		{"x1", 1, "00"},
		{"", 0, ""}, {"", -1, ""}, {"", 1, ""},
	} {
		same(t, fmt.Sprintf("P1.1: Turn(%q, %d)", c.s, c.at), Turn(c.s, c.at), c.want)
	}
	r := rand.New(rand.NewSource(3))
	for range 300 {
		s := signs(r, r.Intn(90))
		for at := -2; at < len(s)+2; at++ {
			want := []byte(plain(s))
			if at >= 0 && at < len(s) {
				want[at] = '0' + '1' - want[at]
			}
			got := Turn(s, at)
			same(t, fmt.Sprintf("P1.1: Turn(%q, %d)", s, at), got, string(want))
			same(t, fmt.Sprintf("P1.1: Turn(%q, %d) turned back", s, at), Turn(got, at), plain(s))
		}
	}
}

// P1.1
func TestBytes(t *testing.T) {
	for _, c := range []struct{ s, want string }{
		{"", ""}, {"1", ""}, {"1111111", ""},
		{"01000001", "A"}, {"010000011", "A"}, {"010000011111111", "A"},
		{"0100000101000010", "AB"},
		{"1111111100000000", "\xff\x00"},
		{"x1xxxxx1", "A"}, {"abcdefgh", "\x00"},
	} {
		same(t, fmt.Sprintf("P1.1: Bytes(%q)", c.s), Bytes(c.s), c.want)
	}
	for _, c := range []byte(allBytes()) {
		row := fmt.Sprintf("%08b", c)
		one := string([]byte{c})
		same(t, fmt.Sprintf("P1.1: FromBytes(%q)", one), FromBytes(one), row)
		same(t, fmt.Sprintf("P1.1: Bytes(%q)", row), Bytes(row), one)
	}
	same(t, "P1.1: FromBytes of nothing", FromBytes(""), "")
	same(t, "P1.1: FromBytes of two", FromBytes("\x81\x02"), "1000000100000010")
	all := allBytes()
	for left := range 8 {
		same(t, fmt.Sprintf("P1.1: Bytes with %d left over", left), Bytes(FromBytes(all)+strings.Repeat("1", left)), all)
	}
}

// P1.1: what came in may be any text; what goes out has the two signs alone.
func TestTwoSignsAlone(t *testing.T) {
	all := allBytes()
	for what, row := range map[string]string{
		"Of":        Of(math.MaxUint64, 64),
		"And":       And(all, all),
		"Turn":      Turn(all, 7),
		"no Turn":   Turn(all, len(all)),
		"FromBytes": FromBytes(all),
	} {
		same(t, "P1.1: strange signs in what "+what+" tells", strings.Trim(row, "01"), "")
	}
}

// longDivision: the remainder of the row (as a polynomial, 15 zeros behind it) by x^15 + 4599; not bit by bit with a register, as the program does it.
func longDivision(s string) uint16 {
	rest, _ := new(big.Int).SetString("0"+plain(s), 2)
	rest.Lsh(rest, 15)
	for rest.BitLen() > 15 {
		by := big.NewInt(0x8000 | 0x4599)
		rest.Xor(rest, by.Lsh(by, uint(rest.BitLen()-16)))
	}
	return uint16(rest.Uint64())
}

// P1.2
func TestSum(t *testing.T) {
	for s, want := range map[string]uint16{
		"":                     0,
		"0":                    0,
		"1":                    0x4599,
		"10":                   0x4eab,
		"11":                   0x0b32,
		"01":                   0x4599,
		"1a":                   0x4eab,
		"a":                    0,
		FromBytes("123456789"): 0x059e, // the sum that is told everywhere for this text
	} {
		same(t, fmt.Sprintf("P1.2: CRC(%q)", s), CRC(s), want)
	}
	for _, s := range rowsUpTo(12) {
		same(t, fmt.Sprintf("P1.2: CRC(%q)", s), CRC(s), longDivision(s))
	}
	r := rand.New(rand.NewSource(4))
	for range 500 {
		s := signs(r, r.Intn(300))
		same(t, fmt.Sprintf("P1.2: CRC(%q)", s), CRC(s), longDivision(s))
	}
}

// P1.2: 15 bits, also when the highest of them was set.
func TestSumHas15Bits(t *testing.T) {
	r := rand.New(rand.NewSource(5))
	for range 500 {
		s := signs(r, r.Intn(300))
		if sum := CRC(s); sum > 0x7fff {
			t.Fatalf("P1.2: CRC(%q): %#x has more than 15 bits", s, sum)
		}
	}
}

// P1.3
func TestSumBehindItsRow(t *testing.T) {
	withSum := func(s string) string { return s + Of(uint64(CRC(s)), 15) }
	for _, s := range rowsUpTo(12) {
		same(t, fmt.Sprintf("P1.3: CRC of %q and its sum", s), CRC(withSum(s)), uint16(0))
	}
	r := rand.New(rand.NewSource(6))
	for range 300 {
		s := signs(r, r.Intn(300))
		whole := withSum(s)
		same(t, fmt.Sprintf("P1.3: CRC of %q and its sum", s), CRC(whole), uint16(0))
		// The sum would be of no use if another row had the sum 0 too.
		at := r.Intn(len(whole))
		if CRC(Turn(whole, at)) == 0 {
			t.Errorf("P1.3: %q turned at %d has the sum 0", whole, at)
		}
	}
}
