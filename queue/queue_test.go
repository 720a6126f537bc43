package queue

import (
	"fmt"
	"math"
	"math/rand"
	"runtime"
	"slices"
	"strings"
	"sync"
	"testing"
	"time"

	"ostinato/api"
)

// The limits and numbers of the document, written out.
const (
	mostRoom = 4
	full     = api.Errno(170)
	empty    = api.Errno(171)
)

// of: a delivery.
func of(msg int, data string) api.Delivery { return api.Delivery{Msg: msg, Data: data} }

// row: so many deliveries, each another one, from a number on.
func row(from, n int) []api.Delivery {
	var out []api.Delivery
	for i := range n {
		out = append(out, of(from+i, fmt.Sprint("data ", from+i)))
	}
	return out
}

// same: what a queue tells, asked twice: to be asked changes nothing.
func same(t *testing.T, what string, q *Queue, want ...api.Delivery) {
	t.Helper()
	for _, turn := range []string{"", ", asked again"} {
		if got := q.Len(); got != len(want) {
			t.Fatalf("%s%s: Len: %d, want %d", what, turn, got, len(want))
		}
		if got := q.All(); !slices.Equal(got, want) {
			t.Fatalf("%s%s: All: %v, want %v", what, turn, got, want)
		}
		first := append(slices.Clone(want), api.Delivery{})[0]
		if got, ok := q.Head(); got != first || ok != (len(want) > 0) {
			t.Fatalf("%s%s: Head: %v, %v, want %v", what, turn, got, ok, first)
		}
	}
}

// put: each is a call of its own, and all of them are told the same.
func put(t *testing.T, what string, q *Queue, want api.Errno, ds ...api.Delivery) *Queue {
	t.Helper()
	for _, d := range ds {
		if got := q.Put(d.Msg, d.Data); got != want {
			t.Fatalf("%s: Put of %v: %v, want %v", what, d, got, want)
		}
	}
	return q
}

// take: each is a call of its own.
func take(t *testing.T, what string, q *Queue, want ...api.Delivery) *Queue {
	t.Helper()
	for _, d := range want {
		if got, e := q.Take(); got != d || e != api.OK {
			t.Fatalf("%s: Take: %v, %v, want %v", what, got, e, d)
		}
	}
	return q
}

// takeNone: nothing is there to be taken.
func takeNone(t *testing.T, what string, q *Queue) *Queue {
	t.Helper()
	if got, e := q.Take(); got != (api.Delivery{}) || e != empty {
		t.Fatalf("%s: Take: %v, %v, want nothing, %v", what, got, e, empty)
	}
	return q
}

// rooms: what may be asked for, and what is held.
func rooms() map[int]int {
	return map[int]int{
		math.MinInt: 1, math.MinInt32: 1, -4: 1, -1: 1, 0: 1, 1: 1, 2: 2, 3: 3, 4: 4, 5: 4, 8: 4, 100: 4,
		1 << 16: 4, math.MaxInt32: 4, 1 << 32: 4, 1<<32 + 1: 4, math.MaxInt: 4,
	}
}

func TestLimits(t *testing.T) {
	if api.MaxQueue != mostRoom || api.ErrFull != full || api.ErrEmpty != empty {
		t.Fatal("P17.1: other limits or numbers than the tests have")
	}
}

func TestNew(t *testing.T) {
	for room, want := range rooms() {
		what := fmt.Sprint("P17.1: New of ", room)
		q := New(room)
		same(t, what, q)
		takeNone(t, what, q)
		for n := range want {
			put(t, what, q, api.OK, row(n, 1)...)
			same(t, what, q, row(0, n+1)...)
		}
		put(t, what+", full", q, full, of(9, "no"))
		same(t, what+", full", q, row(0, want)...)
		take(t, what, q, row(0, want)...)
		takeNone(t, what+", taken empty", q)
		same(t, what+", taken empty", q)
	}
	one, two := New(2), New(2)
	put(t, "P17.1: one of two", one, api.OK, of(1, "a"))
	same(t, "P17.1: another one that was made alike", two)
	put(t, "P17.1: two of two", two, api.OK, of(2, "b"))
	same(t, "P17.1: the first one of them", one, of(1, "a"))
	same(t, "P17.1: one that is made later", New(2))
}

// The chapter's example.
func TestExample(t *testing.T) {
	q := New(1)
	put(t, "P17.1: the first", q, api.OK, of(0, "x"))
	put(t, "P17.1: the second", q, full, of(0, "x"))
	same(t, "P17.1: New(1), two Puts", q, of(0, "x"))
}

func TestRowsOfPutAndTake(t *testing.T) {
	a, b, c, d := of(3, "a"), of(1, "b"), of(3, "a"), of(0, "")
	q := New(3)
	same(t, "P17.1", put(t, "P17.1", q, api.OK, a), a)
	same(t, "P17.1: behind all others", put(t, "P17.1", q, api.OK, b), a, b)
	same(t, "P17.1: the same once more", put(t, "P17.1", q, api.OK, c), a, b, c)
	same(t, "P17.1: refused", put(t, "P17.1", q, full, d), a, b, c)
	same(t, "P17.1: the first one goes", take(t, "P17.1", q, a), b, c)
	same(t, "P17.1: and has room again", put(t, "P17.1", q, api.OK, d), b, c, d)
	same(t, "P17.1", put(t, "P17.1", q, full, a), b, c, d)
	same(t, "P17.1", take(t, "P17.1", q, b, c), d)
	same(t, "P17.1: all but nothing in it", put(t, "P17.1", q, api.OK, b), d, b)
	same(t, "P17.1", take(t, "P17.1", q, d, b))
	same(t, "P17.1", takeNone(t, "P17.1", q))
	same(t, "P17.1: on from empty", put(t, "P17.1", q, api.OK, a, d), a, d)
}

// It is by when they came, not by their numbers or bytes, that they stand.
func TestOrder(t *testing.T) {
	for _, list := range [][]api.Delivery{
		{of(4, "d"), of(3, "c"), of(2, "b"), of(1, "a")},
		{of(1, "d"), of(1, "c"), of(1, "b"), of(1, "a")},
		{of(1, "a"), of(1, "a"), of(1, "a"), of(1, "a")},
		{of(2, "a"), of(1, "a"), of(2, "a"), of(1, "a")},
		{of(0, ""), of(5, "x"), of(0, ""), of(0, "")},
	} {
		q := put(t, "P17.1", New(mostRoom), api.OK, list...)
		same(t, "P17.1: in order", q, list...)
		for n := range list {
			take(t, "P17.1: in order", q, list[n])
			same(t, "P17.1: in order", q, list[n+1:]...)
		}
	}
}

// P17.2: as often as one likes.
func TestFullAgainAndAgain(t *testing.T) {
	for room := 1; room <= mostRoom; room++ {
		list := row(0, room)
		q := put(t, "P17.1", New(room), api.OK, list...)
		for n := range 50 {
			put(t, "P17.2: full", q, full, of(n, "no"))
			same(t, "P17.2: full, refused", q, list...)
		}
		put(t, "P17.2: full", q, full, slices.Repeat(row(50, 4), 50)...)
		same(t, "P17.2: full, refused many times", q, list...)
		take(t, "P17.2: what was refused doesn't come", q, list...)
		takeNone(t, "P17.2: what was refused doesn't come", q)
		same(t, "P17.2: full, then taken", put(t, "P17.2: all of the room is there", q, api.OK, list...), list...)
		put(t, "P17.2: and no more", q, full, of(9, "no"))
	}
}

// P17.2: as often as one likes, at the beginning and behind what went.
func TestEmptyAgainAndAgain(t *testing.T) {
	for room := 1; room <= mostRoom; room++ {
		q := New(room)
		for _, list := range [][]api.Delivery{nil, row(3, 1), row(5, room)} {
			put(t, "P17.1", q, api.OK, list...)
			take(t, "P17.1", q, list...)
			for range 50 {
				same(t, "P17.2: empty, refused", takeNone(t, "P17.2: empty", q))
			}
		}
		list := row(7, room)
		same(t, "P17.2: empty, then put", put(t, "P17.2: all of the room is there", q, api.OK, list...), list...)
		put(t, "P17.2: and no more", q, full, of(9, "no"))
	}
}

func TestFilledAndEmptied(t *testing.T) {
	for room := 1; room <= mostRoom; room++ {
		q := New(room)
		for n := range 300 {
			list := row(n*room, 1+n%room)
			what := fmt.Sprintf("P17.1: room %d, turn %d", room, n)
			same(t, what, put(t, what, q, api.OK, list...), list...)
			same(t, what, take(t, what, q, list...))
			takeNone(t, what, q)
		}
	}
}

// By turns: a full queue has room for one behind each Take, and for no other one.
func TestByTurns(t *testing.T) {
	for room := 1; room <= mostRoom; room++ {
		q := put(t, "P17.1", New(room), api.OK, row(0, room)...)
		for n := range 300 {
			what := fmt.Sprintf("P17.1: room %d, turn %d", room, n)
			next := row(n+room, 1)
			put(t, what, q, full, next...)
			same(t, what, take(t, what, q, row(n, 1)...), row(n+1, room-1)...)
			same(t, what, put(t, what, q, api.OK, next...), row(n+1, room)...)
		}
	}
}

// Messages and data are kept as they are: the queue asks nothing of them.
func TestAnyMessage(t *testing.T) {
	for _, msg := range []int{math.MinInt, math.MinInt32, -12, -1, 0, 1, 11, 12, 13, 1 << 32, math.MaxInt} {
		for _, data := range []string{"", "x", "\x00", "12345678", "123456789", "\xff\xfe\x00\x80", "\u00e9\u20ac", strings.Repeat("\x00", 9), strings.Repeat("long", 1<<18)} {
			d := of(msg, data)
			what := fmt.Sprintf("P17.1: message %d, %d bytes", msg, len(data))
			q := put(t, what, New(2), api.OK, d, of(7, "on"))
			put(t, what+", refused", q, full, d)
			same(t, what, q, d, of(7, "on"))
			take(t, what, q, d, of(7, "on"))
		}
	}
	zero := put(t, "P17.1: zeros", New(1), api.OK, api.Delivery{})
	same(t, "P17.1: zeros that wait are something", zero, api.Delivery{})
	same(t, "P17.1: zeros that wait are something", take(t, "P17.1: zeros", zero, api.Delivery{}))
}

// What All told is the caller's own, its spare room too.
func TestAllIsNew(t *testing.T) {
	list := row(0, mostRoom)
	for n := range mostRoom + 1 {
		q := put(t, "P17.1", New(mostRoom), api.OK, list[:n]...)
		one, two := q.All(), q.All()
		for i := range one[:cap(one)] {
			one[:cap(one)][i] = of(-1, "harmed")
		}
		one = append(one, of(-2, "more"))
		if !slices.Equal(two, list[:n]) {
			t.Fatalf("P17.1: an answer that another one changed: %v", two)
		}
		same(t, "P17.1: an answer that was changed", q, list[:n]...)
		take(t, "P17.1: an answer that was changed", q, list[:n]...)
		put(t, "P17.1", q, api.OK, row(20, mostRoom)...)
		if !slices.Equal(two, list[:n]) || len(one) != n+1 || slices.ContainsFunc(one[:n], func(d api.Delivery) bool { return d != of(-1, "harmed") }) {
			t.Fatalf("P17.1: answers that the queue changed: %v, %v", one, two)
		}
	}
}

// A copy has what waits, and the room: full, empty and between.
func TestCopy(t *testing.T) {
	for asked, room := range rooms() {
		for n := range room + 1 {
			what := fmt.Sprintf("P17.1: New of %d, %d wait", asked, n)
			list := row(0, n)
			q := put(t, what, New(asked), api.OK, list...)
			o := q.Copy()
			same(t, what+", a copy", o, list...)
			same(t, what+", what is copied", q, list...)
			put(t, what+", its copy has the room", o, api.OK, row(10, room-n)...)
			put(t, what+", its copy has no more", o, full, of(9, "no"))
			same(t, what+", a copy that was filled", o, append(row(0, n), row(10, room-n)...)...)
			same(t, what+", whose copy was filled", q, list...)
			take(t, what, o, list...)
			same(t, what+", whose copy went on", q, list...)
			put(t, what+", all of its own room", q, api.OK, row(30, room-n)...)
			put(t, what+", no more", q, full, of(9, "no"))
			same(t, what+", whose first one went on", o, row(10, room-n)...)
			take(t, what, q, append(row(0, n), row(30, room-n)...)...)
			takeNone(t, what+", taken empty", q)
			same(t, what+", whose first one is empty", o, row(10, room-n)...)
		}
	}
}

// A copy that was refused, and one whose first one was, are as they were.
func TestCopyRefused(t *testing.T) {
	q := put(t, "P17.1", New(2), api.OK, row(0, 2)...)
	o := q.Copy()
	put(t, "P17.2: a copy", o, full, of(9, "no"))
	put(t, "P17.2: what is copied", q, full, of(8, "no"))
	same(t, "P17.2: what is copied", q, row(0, 2)...)
	same(t, "P17.2: a copy", o, row(0, 2)...)
	q = New(2)
	o = takeNone(t, "P17.2: an empty one", q).Copy()
	takeNone(t, "P17.2: an empty copy", o)
	put(t, "P17.1: an empty copy", o, api.OK, of(1, "a"))
	same(t, "P17.1: whose empty copy went on", takeNone(t, "P17.2", q))
	same(t, "P17.1: an empty copy", o, of(1, "a"))
}

func TestCopyOfACopy(t *testing.T) {
	q := put(t, "P17.1", New(3), api.OK, row(0, 2)...)
	take(t, "P17.1", q, row(0, 1)...)
	o := q.Copy()
	third := put(t, "P17.1", o, api.OK, row(2, 1)...).Copy()
	take(t, "P17.1", o, row(1, 2)...)
	same(t, "P17.1: the first one", q, row(1, 1)...)
	same(t, "P17.1: its copy", o)
	same(t, "P17.1: a copy's copy", third, row(1, 2)...)
	put(t, "P17.1: the room of a copy's copy", third, api.OK, row(3, 1)...)
	put(t, "P17.1: the room of a copy's copy", third, full, row(4, 1)...)
}

// Whatever the order of calls, and whichever of the copies: each is as a list of its own.
func TestAnyOrder(t *testing.T) {
	r := rand.New(rand.NewSource(171))
	for turn := range 300 {
		room := turn%mostRoom + 1
		qs, lists := []*Queue{New(room)}, [][]api.Delivery{nil}
		for n := range 120 {
			what := fmt.Sprintf("P17.1: turn %d, step %d", turn, n)
			i := r.Intn(len(qs))
			switch q, list := qs[i], lists[i]; r.Intn(5) {
			case 0, 1:
				d := of(r.Intn(9)-4, strings.Repeat("x", r.Intn(12)))
				if len(list) == room {
					put(t, what, q, full, d)
				} else {
					put(t, what, q, api.OK, d)
					lists[i] = append(list, d)
				}
			case 2, 3:
				if len(list) == 0 {
					takeNone(t, what, q)
				} else {
					take(t, what, q, list[0])
					lists[i] = list[1:]
				}
			default:
				qs, lists = append(qs, q.Copy()), append(lists, slices.Clone(list))
			}
			for i, q := range qs[max(0, len(qs)-4):] {
				same(t, what, q, lists[max(0, len(qs)-4)+i]...)
			}
			same(t, what, qs[i], lists[i]...)
		}
	}
}

// A queue that New didn't make has no room; its calls end all the same.
func TestNotMade(t *testing.T) {
	var q Queue
	put(t, "no room", &q, full, of(1, "a"))
	takeNone(t, "no room", &q)
	same(t, "no room", &q)
	o := q.Copy()
	put(t, "a copy without room", o, full, of(1, "a"))
	same(t, "a copy without room", takeNone(t, "a copy without room", o))
}

// soon fails if what it is given doesn't end: it would wait upon a channel for ever.
func soon(t *testing.T, what string, run func()) {
	t.Helper()
	ended := make(chan int)
	go func() {
		defer close(ended)
		run()
	}()
	select {
	case <-ended:
	case <-time.After(time.Minute):
		t.Fatalf("%s: no end", what)
	}
}

// Looks change nothing, not for other looks at the same time either: an answer doesn't hang on how goroutines are scheduled.
func TestLooksAtOnce(t *testing.T) {
	for n := range mostRoom + 1 {
		list := row(0, n)
		q := put(t, "P17.1", New(mostRoom), api.OK, list...)
		soon(t, "P17.1: looks at once", func() {
			var looks sync.WaitGroup
			for range 4 {
				looks.Go(func() {
					for range 2000 {
						h, ok := q.Head()
						if !slices.Equal(q.All(), list) || q.Len() != n || !slices.Equal(q.Copy().All(), list) || ok != (n > 0) || ok && h != list[0] {
							t.Error("P17.1: a look that another one changed")
							return
						}
					}
				})
			}
			looks.Wait()
		})
		same(t, "P17.1: behind all looks", q, list...)
	}
}

// puts: one behind the other, each again and again until it has room.
func puts(q *Queue, from, n int) {
	for _, d := range row(from, n) {
		for q.Put(d.Msg, d.Data) != api.OK {
			runtime.Gosched()
		}
	}
}

// Whatever calls come at once: each ends, all that had room is taken once, and of each goroutine in its order.
func TestCallsAtOnce(t *testing.T) {
	const many, each = 3, 1000
	q := New(2)
	soon(t, "P17.1: calls at once", func() {
		var all sync.WaitGroup
		for i := range many {
			all.Go(func() { puts(q, i*each, each) })
			all.Go(func() {
				for range each {
					q.Copy()
				}
			})
		}
		next := [many]int{}
		for range many * each {
			d, e := q.Take()
			for e == empty {
				runtime.Gosched()
				d, e = q.Take()
			}
			i := d.Msg / each
			if d != row(i*each+next[i], 1)[0] {
				t.Errorf("P17.1: %v, want number %d of %d", d, next[i], i)
			}
			next[i]++
		}
		all.Wait()
	})
	same(t, "P17.1: behind all calls", takeNone(t, "P17.1", q))
}
