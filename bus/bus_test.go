package bus

import (
	"fmt"
	"math/rand"
	"strings"
	"testing"

	"ostinato/api"
)

const most = 4000 // bits of a trace, as the document's table of limits has it

func same(t *testing.T, what string, got, want any) {
	t.Helper()
	if got != want {
		t.Errorf("%s: %v, want %v", what, got, want)
	}
}

func sameStep(t *testing.T, b *Bus, levels string, want byte) {
	t.Helper()
	if got := b.Step(levels); got != want {
		t.Errorf("P6.1: Step(%q): %q, want %q", levels, got, want)
	}
}

// sameAll: b had just these bits.
func sameAll(t *testing.T, what string, b *Bus, all string) {
	t.Helper()
	latest := all
	if len(all) > most {
		latest = all[len(all)-most:]
	}
	if got := b.Trace(); got != latest {
		t.Errorf("P6.1: %s: a trace of %d bits, want %d; or other ones", what, len(got), len(latest))
	}
	if got := b.Len(); got != len(all) {
		t.Errorf("P6.1: %s: Len %d, want %d", what, got, len(all))
	}
}

// row: n bits, by their chance.
func row(r *rand.Rand, n int) string {
	bits := make([]byte, n)
	for i := range bits {
		bits[i] = "01"[r.Intn(2)]
	}
	return string(bits)
}

// drive: each bit of a row is one step's only level.
func drive(b *Bus, bits string) {
	for i := range len(bits) {
		b.Step(bits[i : i+1])
	}
}

// of: a bus that had these bits.
func of(bits string) *Bus {
	b := New()
	drive(b, bits)
	return b
}

func turned(bit byte) byte {
	if bit == '0' {
		return '1'
	}
	return '0'
}

type given struct {
	levels string
	want   byte
}

// rows: levels written out by hand, and what is on the wire of them.
func rows() []given {
	return []given{
		{"", '1'}, {"1", '1'}, {"0", '0'},
		{"11", '1'}, {"01", '0'}, {"10", '0'}, {"00", '0'},
		{"111", '1'}, {"011", '0'}, {"101", '0'}, {"110", '0'}, {"000", '0'},
		{"1111111", '1'}, {"0111111", '0'}, {"1110111", '0'}, {"1111110", '0'},
		{"x", '1'}, {"1x1", '1'}, {"xyz", '1'}, {"x0", '0'}, {"0x", '0'}, {"x0y", '0'}, {"1x0x1", '0'},
		{"\x00", '1'}, {"\x01", '1'}, {"\x00\x01", '1'}, {"\x000\x00", '0'},
		{"/", '1'}, {"2", '1'}, {"/2", '1'}, {"/02", '0'}, {"O", '1'}, {"o", '1'}, {" ", '1'}, {"\n", '1'},
		{"\xff", '1'}, {"\xb0", '1'}, {"\xff0", '0'}, {"0\xff", '0'}, {"\xb00\xb1", '0'},
		{"\uff10", '1'}, {"\u0660", '1'}, {"\u20700", '0'}, {"\uff10\uff11", '1'},
	}
}

// P6.1
func TestStep(t *testing.T) {
	for _, g := range rows() {
		b := New()
		sameStep(t, b, g.levels, g.want)
		sameAll(t, fmt.Sprintf("behind Step(%q)", g.levels), b, string(g.want))
	}
}

// P6.1: each byte that there is, alone and among others.
func TestStepOfEveryByte(t *testing.T) {
	b := New()
	for n := range 256 {
		sign := string([]byte{byte(n)})
		want := byte('1')
		if n == 48 {
			want = '0'
		}
		for _, levels := range []string{sign, sign + "1", "1" + sign, "1" + sign + "1", sign + sign} {
			sameStep(t, b, levels, want)
		}
		for _, levels := range []string{sign + "0", "0" + sign, "0" + sign + "0", sign + "0" + sign} {
			sameStep(t, b, levels, '0')
		}
	}
}

// P6.1: one 0 at each place of rows of each length, and far out in long ones.
func TestStepOfOneZero(t *testing.T) {
	b := New()
	for long := range 40 {
		ones := strings.Repeat("1", long)
		sameStep(t, b, ones, '1')
		for at := range long {
			sameStep(t, b, ones[:at]+"0"+ones[at+1:], '0')
		}
	}
	many := strings.Repeat("1", 100000)
	for _, g := range []given{{many, '1'}, {"0" + many, '0'}, {many + "0", '0'}, {many + "0" + many, '0'}} {
		if got := b.Step(g.levels); got != g.want {
			t.Errorf("P6.1: Step of %d levels: %q, want %q", len(g.levels), got, g.want)
		}
	}
}

// P6.1: what was on the wire before changes nothing of what is.
func TestStepsOneBehindTheOther(t *testing.T) {
	b, all := New(), ""
	for range 3 {
		for _, g := range rows() {
			sameStep(t, b, g.levels, g.want)
			all += string(g.want)
			sameAll(t, "some steps", b, all)
		}
	}
}

// P6.1: however often Flip was called, that one bit is turned, and no other one.
func TestFlip(t *testing.T) {
	for _, g := range rows() {
		for _, times := range []int{1, 2, 3, 4, 7, 8, 255, 256, 257, 1000} {
			b := of("10")
			for range times {
				b.Flip()
			}
			sameAll(t, "flipped, not stepped", b, "10")
			if got := b.Step(g.levels); got != turned(g.want) {
				t.Errorf("P6.1: Step(%q) behind %d of Flip: %q", g.levels, times, got)
			}
			sameStep(t, b, g.levels, g.want)
			sameStep(t, b, g.levels, g.want)
			sameAll(t, "flipped and stepped", b, "10"+string([]byte{turned(g.want), g.want, g.want}))
		}
	}
}

// P6.1: a bit turned, the next one turned as well: each needs a Flip of its own.
func TestFlipBitByBit(t *testing.T) {
	r := rand.New(rand.NewSource(61))
	b, all := New(), ""
	for range 3000 {
		times, plain := r.Intn(4), "01"[r.Intn(2)]
		for range times {
			b.Flip()
		}
		want := plain
		if times > 0 {
			want = turned(plain)
		}
		sameStep(t, b, "1"+string(plain)+"1", want)
		all += string(want)
	}
	sameAll(t, "turned by chance", b, all)
}

// P6.1: asked for in between, it stays waited for.
func TestFlipWaits(t *testing.T) {
	b := New()
	b.Flip()
	b.Trace()
	b.Len()
	b.Copy()
	sameStep(t, b, "1", '0')
	b.Flip()
	b.Copy().Step("1")
	sameStep(t, b, "0", '1')
	sameStep(t, b, "0", '0')
}

// P6.1
func TestNew(t *testing.T) {
	b, other := New(), New()
	sameAll(t, "a new one", b, "")
	other.Flip()
	sameStep(t, b, "1", '1')
	sameAll(t, "a new one, another one stepped", other, "")
	sameStep(t, other, "1", '0')
	sameAll(t, "its own bits", b, "1")
	sameAll(t, "new behind others", New(), "")
	sameStep(t, New(), "", '1')
}

// P6.1: at the limit, one below, one past it, and round the ring again and again.
func TestTraceAndLen(t *testing.T) {
	same(t, "the limit", api.MaxTrace, most)
	all := row(rand.New(rand.NewSource(62)), 5*most+3)
	for _, n := range []int{0, 1, 2, 3, 100, most - 2, most - 1, most, most + 1, most + 2, 2*most - 1, 2 * most, 2*most + 1, 3*most - 1, 3 * most, 3*most + 1, 5*most + 3} {
		sameAll(t, fmt.Sprintf("%d bits", n), of(all[:n]), all[:n])
	}
}

// P6.1: the one that goes out is the eldest, the one that comes in stands last.
func TestTheEldestGoes(t *testing.T) {
	ones := strings.Repeat("1", most)
	b := of(ones)
	b.Step("0")
	same(t, "P6.1: one past the limit", b.Trace() == ones[1:]+"0", true)
	drive(b, ones[1:])
	same(t, "P6.1: the 0 is the eldest", b.Trace() == "0"+ones[1:], true)
	b.Step("1")
	same(t, "P6.1: the 0 is gone", b.Trace() == ones, true)
	same(t, "P6.1: Len", b.Len(), 2*most+1)
}

// P6.1: behind each step, round the ring.
func TestTraceBehindEachStep(t *testing.T) {
	all := row(rand.New(rand.NewSource(63)), 2*most+500)
	b := New()
	for i := range len(all) {
		b.Step(all[i : i+1])
		if i < 300 || i%most < 200 || i%most > most-200 {
			sameAll(t, fmt.Sprintf("%d bits", i+1), b, all[:i+1])
		}
	}
}

// P6.1: asked twice, told the same; and an answer stays what it was.
func TestTraceStays(t *testing.T) {
	for _, n := range []int{0, 5, most, most + 7} {
		all := row(rand.New(rand.NewSource(64)), n)
		b := of(all)
		first := b.Trace()
		kept := strings.Clone(first)
		same(t, "P6.1: a trace asked for again", b.Trace() == kept, true)
		drive(b, row(rand.New(rand.NewSource(65)), most+1))
		same(t, "P6.1: a trace behind other bits", first == kept, true)
	}
}

// lengths: of buses to be copied: none, some, at the limit and round the ring.
func lengths() []int {
	return []int{0, 1, 2, 50, most - 1, most, most + 1, 2 * most, 2*most + 77}
}

// P6.1: a copy has the same bits, and both go their own ways.
func TestCopy(t *testing.T) {
	for _, n := range lengths() {
		for _, more := range []int{1, 2, 100, most - 1, most, most + 1} {
			r := rand.New(rand.NewSource(int64(n + more)))
			all, one, two := row(r, n), row(r, more), row(r, more)
			b := of(all)
			c := b.Copy()
			sameAll(t, "a copy", c, all)
			drive(b, one)
			sameAll(t, "a copy, the first one stepped", c, all)
			drive(c, two)
			sameAll(t, "the first one", b, all+one)
			sameAll(t, "a copy that was stepped", c, all+two)
		}
	}
}

// P6.1: the copy goes first.
func TestCopyLeavesTheFirst(t *testing.T) {
	for _, n := range lengths() {
		r := rand.New(rand.NewSource(int64(n)))
		all, more := row(r, n), row(r, 2*most)
		b := of(all)
		drive(b.Copy(), more)
		sameAll(t, "the first one, a copy stepped", b, all)
		drive(b, more)
		sameAll(t, "the first one, stepped", b, all+more)
	}
}

// P6.1: a turned bit that is waited for comes on both, on each once.
func TestCopyOfTurned(t *testing.T) {
	for _, n := range lengths() {
		all := row(rand.New(rand.NewSource(int64(n))), n)
		b := of(all)
		b.Flip()
		c := b.Copy()
		d := c.Copy()
		sameStep(t, b, "1", '0')
		sameStep(t, b, "1", '1')
		sameStep(t, c, "0", '1')
		sameStep(t, c, "0", '0')
		d.Flip()
		sameStep(t, d, "", '0')
		sameStep(t, d, "", '1')
		sameAll(t, "the first one", b, all+"01")
		sameAll(t, "a copy", c, all+"10")
		sameAll(t, "a copy's copy", d, all+"01")
	}
}

// P6.1: a Flip behind the copy is of one alone.
func TestFlipBehindCopy(t *testing.T) {
	for _, n := range lengths() {
		b := of(row(rand.New(rand.NewSource(int64(n))), n))
		c := b.Copy()
		b.Flip()
		sameStep(t, c, "1", '1')
		sameStep(t, b, "1", '0')
		c.Flip()
		sameStep(t, b, "1", '1')
		sameStep(t, c, "1", '0')
		b.Flip()
		b.Step("1")
		sameStep(t, b.Copy(), "1", '1')
	}
}

// orders: a row in all its orders.
func orders(levels string) []string {
	if len(levels) < 2 {
		return []string{levels}
	}
	var all []string
	for at := range len(levels) {
		for _, rest := range orders(levels[:at] + levels[at+1:]) {
			all = append(all, levels[at:at+1]+rest)
		}
	}
	return all
}

// P6.2: there is one bit for all: whoever stands where, undisturbed or turned.
func TestOneBitWhateverTheOrder(t *testing.T) {
	for _, levels := range []string{"", "1", "0", "10", "1x", "0x", "100", "110", "10x", "11111", "01111", "00111", "00000", "1x1x0", "1x1xx"} {
		for _, turn := range []bool{false, true} {
			b := New()
			want := byte('1')
			if strings.Contains(levels, "0") != turn {
				want = '0'
			}
			for _, order := range orders(levels) {
				if turn {
					b.Flip()
				}
				if got := b.Step(order); got != want {
					t.Errorf("P6.2: Step(%q), turned %v: %q, want %q", order, turn, got, want)
				}
			}
		}
	}
}

// P6.2: what Step answers is what the trace has, one bit a step, on a copy as well.
func TestOneBitInStepAndTrace(t *testing.T) {
	r := rand.New(rand.NewSource(66))
	b := New()
	for i := range most + 500 {
		if r.Intn(3) == 0 {
			b.Flip()
		}
		levels := row(r, r.Intn(9))
		c := b.Copy()
		got := b.Step(levels)
		trace := b.Trace()
		if trace[len(trace)-1] != got || b.Len() != i+1 {
			t.Fatalf("P6.2: step %d: %q, and another bit in the trace", i, got)
		}
		if c.Step(levels) != got || c.Trace() != trace {
			t.Fatalf("P6.2: step %d: another bit on a copy", i)
		}
	}
}

// P6.2: who drives a 0 sees it, whatever all others drive; who drives a 1 sees it where nobody drives a 0.
func TestZeroWins(t *testing.T) {
	b := New()
	for n := range 1 << api.MaxNodes {
		levels := fmt.Sprintf("%08b", n)
		want := byte('0')
		if n == 1<<api.MaxNodes-1 {
			want = '1'
		}
		if got := b.Step(levels); got != want {
			t.Errorf("P6.2: Step(%q): %q, want %q", levels, got, want)
		}
	}
}
