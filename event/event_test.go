package event

import (
	"bytes"
	"math"
	"math/big"
	"math/rand"
	"runtime"
	"slices"
	"testing"

	"lumper/api"
)

// names are those of an event's numbers, in the order in which made, and told, have them.
var names = []string{"ID", "Worker", "At", "Kind", "From", "To", "Element", "Units", "Class", "Gear", "Code"}

// made is the event of eleven numbers.
func made(l [11]int) api.Event {
	return api.Event{ID: l[0], Worker: l[1], At: l[2], Kind: l[3], From: l[4], To: l[5], Element: l[6], Units: l[7], Class: l[8], Gear: l[9], Code: l[10]}
}

// told is an event's eleven numbers.
func told(e api.Event) [11]int {
	return [11]int{e.ID, e.Worker, e.At, e.Kind, e.From, e.To, e.Element, e.Units, e.Class, e.Gear, e.Code}
}

// with is e, and n as its number i.
func with(e api.Event, i, n int) api.Event {
	l := told(e)
	l[i] = n
	return made(l)
}

// owned are the places of the numbers that are a kind's own.
func owned(kind int) []int {
	switch kind {
	case 3:
		return []int{4, 5, 6, 7, 8, 9}
	case 4:
		return []int{10}
	}
	return nil
}

// isFair tells whether an event is fair, word for word.
func isFair(e api.Event) bool {
	l := told(e)
	ok := l[0] <= 100000 && l[2] <= 31449599 && l[3] >= 1 && l[3] <= 7
	for i, n := range l {
		ok = ok && n >= 0
		if i > 3 && !slices.Contains(owned(l[3]), i) {
			ok = ok && n == 0
		}
	}
	return ok
}

// mayBe tells whether an event may be in a setup, word for word.
func mayBe(s api.Setup, e api.Event) bool {
	ok := isFair(e) && e.Worker < len(s.Rates)
	if e.Kind == 3 {
		ok = ok && e.From < s.Places && e.To < s.Places && e.Element < len(s.Elements)
		ok = ok && e.Class < len(s.Classes) && e.Gear < len(s.Gears) && e.Units <= 10000
	}
	if e.Kind == 4 {
		ok = ok && e.Code <= 99
	}
	return ok
}

// packed is the bytes of numbers that are not below 0, as chapter 5 says them.
func packed(l ...int) []byte {
	var b []byte
	for _, n := range l {
		held := big.NewInt(int64(n)).Bytes()
		b = append(append(b, byte(len(held))), held...)
	}
	return b
}

// numbers are those that an event is written as, in order.
func numbers(e api.Event) []int {
	l := told(e)
	written := slices.Clone(l[:4])
	for _, i := range owned(e.Kind) {
		written = append(written, l[i])
	}
	return written
}

// said is an event's bytes, as the document says them; of one that is not fair, too, if no number is below 0.
func said(e api.Event) []byte { return packed(numbers(e)...) }

// first is the number whose bytes b begins with, as chapter 5 says them, and how many these are; 0 bytes, if there is none.
func first(b []byte) (int, int) {
	if len(b) == 0 || b[0] > 8 || len(b) < 1+int(b[0]) {
		return 0, 0
	}
	size := 1 + int(b[0])
	n := new(big.Int).SetBytes(b[1:size])
	if !n.IsInt64() || size > 1 && b[1] == 0 {
		return 0, 0
	}
	return int(n.Int64()), size
}

// begins is the fair event whose bytes b begins with, and how many these are; 0 bytes, if there is none.
func begins(b []byte) (api.Event, int) {
	var l [11]int
	at := 0
	for i := 0; i < 11; i++ {
		if i > 3 && !slices.Contains(owned(l[3]), i) {
			continue
		}
		n, size := first(b[at:])
		if size == 0 {
			return api.Event{}, 0
		}
		l[i] = n
		at += size
	}
	if !isFair(made(l)) {
		return api.Event{}, 0
	}
	return made(l), at
}

// task, and code, have numbers that are unlike one another.
var (
	task = api.Event{ID: 300, Worker: 2, At: 70000, Kind: api.ETask, From: 5, To: 6, Element: 3, Units: 40, Class: 1, Gear: 4}
	code = api.Event{ID: 258, Worker: 1, At: 8, Kind: api.ECode, Code: 17}
)

// ordinary are events of every kind.
func ordinary() []api.Event {
	l := []api.Event{task, code}
	for _, kind := range []int{api.EIn, api.EOut, api.EBreak, api.EDone, api.EFault} {
		l = append(l, api.Event{ID: 10 + kind, Worker: 3, At: 1000 * kind, Kind: kind})
	}
	return l
}

// ends are fair events whose numbers are as low, and as great, as they may be, of every kind.
func ends() []api.Event {
	var l []api.Event
	for kind := 1; kind <= 7; kind++ {
		low, high := api.Event{Kind: kind}, api.Event{ID: 100000, Worker: math.MaxInt, At: 31449599, Kind: kind}
		for _, i := range owned(kind) {
			high = with(high, i, math.MaxInt)
		}
		l = append(l, low, high)
	}
	return l
}

// put holds Put, with bytes in front and without, against what the document says of an event.
func put(t *testing.T, e api.Event) {
	t.Helper()
	for _, front := range [][]byte{nil, {}, []byte("front"), {0}, {9, 255}, bytes.Repeat([]byte{7}, 300)} {
		b, err := Put(front, e)
		if isFair(e) {
			if want := slices.Concat(front, said(e)); err != api.OK || !bytes.Equal(b, want) {
				t.Fatalf("Put(%v, %v) = %v, %d, want %v", front, e, b, err, want)
			}
		} else if err != api.ErrEvent || len(b) != 0 {
			t.Fatalf("Put(%v, %v) = %v, %d", front, e, b, err)
		}
	}
}

// take holds Take against what the document says of bytes.
func take(t *testing.T, b []byte) {
	t.Helper()
	e, rest, err := Take(b)
	want, size := begins(b)
	if size == 0 {
		if err != api.ErrEvent || e != (api.Event{}) || len(rest) != 0 {
			t.Fatalf("Take(%v) = %v, %v, %d", b, e, rest, err)
		}
		return
	}
	if err != api.OK || e != want || !bytes.Equal(rest, b[size:]) {
		t.Fatalf("Take(%v) = %v, %v, %d, want %v, %v", b, e, rest, err, want, b[size:])
	}
}

// held holds all calls about one event against what the document says of it.
func held(t *testing.T, s api.Setup, e api.Event) {
	t.Helper()
	if got := Check(s, e); got != mayBe(s, e) {
		t.Fatalf("Check(%v, %v) = %v", s, e, got)
	}
	put(t, e)
	if slices.Min(numbers(e)) < 0 {
		return
	}
	for _, behind := range [][]byte{nil, {0}, {1}, {1, 5}, []byte("behind"), {255, 255}, said(task)} {
		take(t, slices.Concat(said(e), behind))
	}
}

// sized is a setup with so many of each that events are held against; nothing else of it is set.
func sized(places, workers, elements, classes, gears int) api.Setup {
	return api.Setup{Places: places, Rates: make([]int, workers), Elements: make([]api.Element, elements),
		Classes: make([]api.Ratio, classes), Gears: make([]api.Ratio, gears)}
}

// ground is a setup in which all ordinary events may be; there is another number of each thing.
func ground() api.Setup { return sized(9, 4, 5, 3, 7) }

// P8.2, P8.3: the event of the chapter's example.
func TestExample(t *testing.T) {
	want := api.Event{ID: 5, At: 300, Kind: api.EOut}
	b, err := Put(nil, want)
	if err != api.OK || !bytes.Equal(b, []byte{1, 5, 0, 2, 1, 44, 1, 2}) {
		t.Errorf("%v, %d", b, err)
	}
	if e, rest, err := Take([]byte{1, 5, 0, 2, 1, 44, 1, 2}); e != want || len(rest) != 0 || err != api.OK {
		t.Errorf("%v, %v, %d", e, rest, err)
	}
}

// P8.2, P8.3: events whose bytes are written out here.
func TestKnown(t *testing.T) {
	for want, e := range map[string]api.Event{
		"\x00\x00\x00\x01\x01":                         {Kind: 1},
		"\x03\x01\x86\xa0\x00\x00\x01\x02":             {ID: 100000, Kind: 2},
		"\x00\x02\x01\x00\x00\x01\x05":                 {Worker: 256, Kind: 5},
		"\x00\x00\x04\x01\xdf\xe1\xff\x01\x06":         {At: 31449599, Kind: 6},
		"\x01\x01\x01\x02\x01\x03\x01\x07":             {ID: 1, Worker: 2, At: 3, Kind: 7},
		"\x00\x00\x00\x01\x04\x00":                     {Kind: 4},
		"\x00\x00\x00\x01\x03\x00\x00\x00\x00\x00\x00": {Kind: 3},
		"\x02\x01\x02\x01\x01\x01\x08\x01\x04\x01\x11": code,
		"\x02\x01\x2c\x01\x02\x03\x01\x11\x70\x01\x03\x01\x05\x01\x06\x01\x03\x01\x28\x01\x01\x01\x04": task,
		"\x00\x00\x00\x01\x04\x08\x7f\xff\xff\xff\xff\xff\xff\xff":                                     {Kind: 4, Code: math.MaxInt},
	} {
		if b, err := Put([]byte("in front"), e); err != api.OK || string(b) != "in front"+want {
			t.Errorf("Put(%v) = %q, %d, want %q", e, b, err, want)
		}
		if got, rest, err := Take([]byte(want + "behind")); err != api.OK || got != e || string(rest) != "behind" {
			t.Errorf("Take(%q) = %v, %q, %d", want, got, rest, err)
		}
	}
}

// P8.1 to P8.3: ordinary events of every kind, and those at the ends of what is fair.
func TestOrdinary(t *testing.T) {
	for _, e := range ordinary() {
		if !Check(ground(), e) {
			t.Errorf("Check(%v) = false", e)
		}
		held(t, ground(), e)
	}
	for _, e := range ends() {
		if _, err := Put(nil, e); err != api.OK {
			t.Errorf("Put(%v): %d", e, err)
		}
		held(t, ground(), e)
	}
}

// P8.1 to P8.3: an event without anything, and kinds that there are, and are not.
func TestKinds(t *testing.T) {
	for kind, fine := range map[int]bool{0: false, 1: true, 2: true, 3: true, 4: true, 5: true, 6: true, 7: true, 8: false, 9: false, -1: false, -3: false,
		255: false, 256: false, 257: false, 259: false, 1<<32 + 3: false, 1<<63 - 1: false, -1 << 63: false, -1<<63 + 3: false} {
		e := api.Event{ID: 1, Worker: 2, At: 3, Kind: kind}
		if _, err := Put(nil, e); (err == api.OK) != fine || Check(ground(), e) != fine {
			t.Errorf("kind %d: %d", kind, err)
		}
		held(t, ground(), e)
		for i := 4; i < 11; i++ {
			held(t, ground(), with(e, i, 1))
		}
	}
	held(t, ground(), api.Event{})
}

// edges are numbers on both sides of all bounds of events, and of the setups here.
func edges() []int {
	l := []int{math.MinInt, math.MinInt + 1, -1 << 32, -1 << 31, -100000, -256, -2, -1}
	for _, n := range []int{0, 3, 5, 7, 9, 99, 256, 10000, 65536, 100000, 1 << 24, 31449599, 1 << 31, 1 << 32, 1 << 62} {
		l = append(l, n-1, n, n+1, n+2)
	}
	return append(l, math.MaxInt-1, math.MaxInt)
}

// P8.1 to P8.3: each number, of events of every kind, on both sides of all bounds: its own ones, and those that are not.
func TestEdges(t *testing.T) {
	for _, e := range slices.Concat(ordinary(), ends()) {
		for i := range names {
			for _, n := range edges() {
				held(t, ground(), with(e, i, n))
			}
		}
	}
}

// P8.1: the least and the greatest values, one below, and one above, as the document names them.
func TestCheckBounds(t *testing.T) {
	for _, c := range []struct {
		name string
		e    api.Event
		i    int
		most int
	}{
		{"ID", task, 0, 100000}, {"ID", code, 0, 100000}, {"ID", api.Event{Kind: 7}, 0, 100000},
		{"Worker", task, 1, 3}, {"Worker", code, 1, 3}, {"Worker", api.Event{Kind: 1}, 1, 3},
		{"At", task, 2, 31449599}, {"At", code, 2, 31449599}, {"At", api.Event{Kind: 5}, 2, 31449599},
		{"From", task, 4, 8}, {"To", task, 5, 8}, {"Element", task, 6, 4}, {"Units", task, 7, 10000},
		{"Class", task, 8, 2}, {"Gear", task, 9, 6}, {"Code", code, 10, 99},
		{"no Code", task, 10, 0}, {"no Units", code, 7, 0}, {"no Gear", api.Event{Kind: 6}, 9, 0},
	} {
		for n, want := range map[int]bool{-1: false, 0: true, c.most: true, c.most + 1: false, math.MinInt: false, math.MaxInt: false} {
			if e := with(c.e, c.i, n); Check(ground(), e) != want {
				t.Errorf("%s: Check(%v) = %v", c.name, e, !want)
			}
		}
	}
}

// P8.1: how many there are of each thing, from none on: what counts is that thing alone, and of a task alone.
func TestCheckSizes(t *testing.T) {
	for size := range 12 {
		for n := -1; n < 13; n++ {
			for i, s := range map[int]api.Setup{1: sized(20, size, 20, 20, 20), 4: sized(size, 20, 20, 20, 20), 5: sized(size, 20, 20, 20, 20),
				6: sized(20, 20, size, 20, 20), 8: sized(20, 20, 20, size, 20), 9: sized(20, 20, 20, 20, size)} {
				e := with(api.Event{Kind: api.ETask}, i, n)
				want := n >= 0 && n < size
				if Check(s, e) != want {
					t.Fatalf("%s %d of %d: Check = %v", names[i], n, size, !want)
				}
			}
		}
	}
	none := sized(0, 1, 0, 0, 0)
	for kind := 1; kind <= 7; kind++ {
		if e := (api.Event{Kind: kind}); Check(none, e) != (kind != 3) {
			t.Errorf("kind %d, where there is nothing but a worker: %v", kind, Check(none, e))
		}
	}
}

// P8.1: setups that may not be, hand-made ones: each event is held against what there is.
func TestCheckHandMade(t *testing.T) {
	for _, places := range []int{math.MinInt, -1, 0, 1, 16, 17, 1 << 40, math.MaxInt} {
		for _, many := range []int{0, 1, 9, 17, 1000} {
			s := sized(places, many, many, many, many)
			for _, e := range slices.Concat(ordinary(), ends(), []api.Event{{}, {Kind: 3, From: 1 << 39, To: 1 << 39}, {Kind: 3, Element: 999, Class: 999, Gear: 999, Worker: 999}}) {
				if got := Check(s, e); got != mayBe(s, e) {
					t.Errorf("Check(%d places, %d, %v) = %v", places, many, e, got)
				}
			}
		}
	}
	if Check(api.Setup{}, api.Event{Kind: 1}) || !Check(api.Setup{Rates: []int{-5}}, api.Event{Kind: 1}) {
		t.Error("a setup with nothing, or with a rate alone")
	}
}

// P8.1: one stands ahead of another one by At, and by ID, and by nothing else.
func TestLess(t *testing.T) {
	values := []int{math.MinInt, -1, 0, 1, 2, 100000, 100001, 31449599, math.MaxInt}
	for _, at := range values {
		for _, id := range values {
			for _, otherAt := range values {
				for _, otherID := range values {
					a, b := with(with(task, 2, at), 0, id), with(with(code, 2, otherAt), 0, otherID)
					ahead := at < otherAt || at == otherAt && id < otherID
					if Less(a, b) != ahead {
						t.Fatalf("Less(%v, %v) = %v", a, b, !ahead)
					}
				}
			}
		}
	}
	for i := range names {
		for _, n := range edges() {
			a, b := with(task, i, n), task
			ahead := (i == 0 || i == 2) && n < told(task)[i]
			if Less(a, b) != ahead {
				t.Fatalf("Less(%v, %v) = %v", a, b, !ahead)
			}
		}
	}
}

// inOrder is l's events, each put in front of the first one that it stands ahead of.
func inOrder(l []api.Event) []api.Event {
	var out []api.Event
	for _, e := range l {
		i := 0
		for i < len(out) && !(e.At < out[i].At || e.At == out[i].At && e.ID < out[i].ID) {
			i++
		}
		out = slices.Insert(out, i, e)
	}
	return out
}

// sorted holds Sort against a list.
func sorted(t *testing.T, l []api.Event) {
	t.Helper()
	if got, want := Sort(l), inOrder(l); !slices.Equal(got, want) {
		t.Fatalf("Sort(%v) = %v, want %v", l, got, want)
	}
}

// P8.1: no events, one, and some, in order, the other way round, and mixed.
func TestSort(t *testing.T) {
	if len(Sort(nil)) != 0 || len(Sort([]api.Event{})) != 0 {
		t.Error("no events")
	}
	sorted(t, []api.Event{task})
	sorted(t, []api.Event{{}})
	a, b, c := api.Event{ID: 9, At: 1, Kind: 1}, api.Event{ID: 1, At: 2, Kind: 2}, api.Event{ID: 2, At: 2, Kind: 3}
	for _, l := range [][]api.Event{{a, b, c}, {a, c, b}, {b, a, c}, {b, c, a}, {c, a, b}, {c, b, a}} {
		if got := Sort(l); !slices.Equal(got, []api.Event{a, b, c}) {
			t.Errorf("Sort(%v) = %v", l, got)
		}
	}
	sorted(t, ordinary())
	sorted(t, slices.Concat(ordinary(), ends(), ordinary()))
}

// P8.1: of the same At and ID the one that was in front stays so, among few and among many; the same events twice stay twice.
func TestSortStays(t *testing.T) {
	for _, n := range []int{2, 3, 12, 13, 50, 300, 1000} {
		var l []api.Event
		for i := range n {
			l = append(l, api.Event{ID: i % 2, Worker: i, At: i % 3, Kind: i%7 + 1})
		}
		sorted(t, l)
		slices.Reverse(l)
		sorted(t, l)
		sorted(t, slices.Concat(l, l))
		for i := range l {
			l[i].ID, l[i].At = 4, 5
		}
		if got := Sort(l); !slices.Equal(got, l) {
			t.Errorf("%d events, none ahead of another: %v", n, got)
		}
	}
}

// P8.1: events by chance, from few times and numbers, and from all of them.
func TestSortByChance(t *testing.T) {
	chance := rand.New(rand.NewSource(81))
	for range 400 {
		l := make([]api.Event, chance.Intn(60))
		few := 1 + chance.Intn(9)
		for i := range l {
			l[i] = api.Event{ID: chance.Intn(few), At: chance.Intn(few), Worker: i}
			if chance.Intn(4) == 0 {
				l[i].At, l[i].ID = int(chance.Uint64()), int(chance.Uint64())
			}
		}
		sorted(t, l)
	}
}

// P8.1: very many events: each is there, and none stands ahead of the one in front of it.
func TestSortMany(t *testing.T) {
	chance := rand.New(rand.NewSource(82))
	l := make([]api.Event, 200000)
	for i := range l {
		l[i] = api.Event{ID: chance.Intn(50), At: chance.Intn(50), Worker: i}
	}
	got := Sort(l)
	if len(got) != len(l) {
		t.Fatalf("%d events", len(got))
	}
	seen := make([]bool, len(l))
	for i, e := range got {
		if seen[e.Worker] || e != l[e.Worker] {
			t.Fatalf("event %v is there twice, or was not told", e)
		}
		seen[e.Worker] = true
		if i > 0 && (Less(e, got[i-1]) || !Less(got[i-1], e) && e.Worker < got[i-1].Worker) {
			t.Fatalf("%v behind %v", e, got[i-1])
		}
	}
}

// P8.3: an event's bytes that are cut, at every place; and no bytes.
func TestCut(t *testing.T) {
	take(t, nil)
	take(t, []byte{})
	for _, e := range slices.Concat(ordinary(), ends()) {
		b := said(e)
		for n := range len(b) {
			if got, rest, err := Take(b[:n]); err != api.ErrEvent || got != (api.Event{}) || len(rest) != 0 {
				t.Errorf("Take(%v) = %v, %v, %d", b[:n], got, rest, err)
			}
			// What was cut stands in the spare room, and is not to be looked at.
			take(t, b[:n])
			take(t, slices.Clip(bytes.Clone(b[:n])))
		}
	}
}

// P8.3: each byte of events, and of what is behind, is changed to each other one.
func TestChanged(t *testing.T) {
	for _, e := range slices.Concat(ordinary(), ends()) {
		b := append(said(e), 1, 2, 3, 0, 0, 0, 0, 9)
		for i := range b {
			for x := range 256 {
				c := bytes.Clone(b)
				c[i] = byte(x)
				take(t, c)
			}
		}
	}
}

// P8.3: a number in more bytes than it needs, and one that is too great, wherever it stands.
func TestNumbers(t *testing.T) {
	for _, e := range slices.Concat(ordinary(), ends()) {
		l := numbers(e)
		for i, n := range l {
			front, behind := packed(l[:i]...), packed(l[i+1:]...)
			held := big.NewInt(int64(n)).Bytes()
			if len(held) < 8 {
				take(t, slices.Concat(front, []byte{byte(len(held) + 1), 0}, held, behind))
				take(t, slices.Concat(front, []byte{8}, make([]byte, 8-len(held)), held, behind))
			}
			take(t, slices.Concat(front, []byte{byte(len(held) + 1)}, held, behind))
			take(t, slices.Concat(front, []byte{9}, make([]byte, 9-len(held)), held, behind))
			for _, great := range []byte{0x80, 0xff} {
				take(t, slices.Concat(front, []byte{8, great, 0, 0, 0, 0, 0, 0, byte(n)}, behind))
			}
			take(t, slices.Concat(front, behind))
			take(t, slices.Concat(front, []byte{255}, behind))
		}
	}
}

// P8.3: bytes that are numbers, but of no event that is fair: also where a fair one's would be begun by them.
func TestUnfairBytes(t *testing.T) {
	for _, l := range [][]int{
		{100001, 0, 0, 1}, {0, 0, 31449600, 1}, {0, 0, 0, 0}, {0, 0, 0, 8}, {0, 0, 0, 256}, {0, 0, 0, 259, 0, 0, 0, 0, 0, 0}, {0, 0, 0, math.MaxInt},
		{math.MaxInt, 0, 0, 1}, {0, 0, math.MaxInt, 1}, {100001, 0, 0, 3, 0, 0, 0, 0, 0, 0}, {0, 0, 31449600, 4, 0}, {0, 0, 0}, {0, 0}, {0}, {0, 0, 0, 3, 0, 0, 0, 0, 0}, {0, 0, 0, 4},
	} {
		if e, rest, err := Take(packed(l...)); err != api.ErrEvent || e != (api.Event{}) || len(rest) != 0 {
			t.Errorf("Take of %v = %v, %v, %d", l, e, rest, err)
		}
		take(t, packed(l...))
	}
}

// P8.2, P8.3: numbers that are not an event's own are not written, and what stands behind an event is not taken for one of them.
func TestBehind(t *testing.T) {
	for _, e := range slices.Concat(ordinary(), ends()) {
		for _, behind := range [][]byte{packed(1, 2, 3, 4, 5, 6, 7), {0, 0, 0, 0, 0, 0, 0}, {9}, {1}, said(code), bytes.Repeat([]byte{8}, 100)} {
			got, rest, err := Take(slices.Concat(said(e), behind))
			if got != e || !bytes.Equal(rest, behind) || err != api.OK {
				t.Errorf("Take = %v, %v, %d, want %v, %v", got, rest, err, e, behind)
			}
		}
	}
}

// P8.3: bytes by chance: most numbers are few bytes, so that many of them are events'.
func TestTakeByChance(t *testing.T) {
	chance := rand.New(rand.NewSource(83))
	taken := 0
	for range 60000 {
		b := make([]byte, chance.Intn(40))
		for i := range b {
			switch chance.Intn(12) {
			case 0:
				b[i] = byte(chance.Intn(256))
			case 1:
				b[i] = byte(chance.Intn(9))
			default:
				b[i] = byte(chance.Intn(2) * (1 + chance.Intn(3)))
			}
		}
		take(t, b)
		if _, size := begins(b); size > 0 {
			taken++
		}
	}
	if taken < 500 {
		t.Errorf("%d events alone", taken)
	}
}

// drawn is an event by chance, most of whose numbers stand at edges or are small.
func drawn(chance *rand.Rand) api.Event {
	var l [11]int
	l[0], l[1], l[2], l[3] = chance.Intn(100001), chance.Intn(5), chance.Intn(31449600), 1+chance.Intn(7)
	for _, i := range owned(l[3]) {
		l[i] = chance.Intn(10)
	}
	if chance.Intn(3) == 0 {
		l[chance.Intn(11)] = edges()[chance.Intn(len(edges()))]
	}
	return made(l)
}

// P8.1 to P8.4: events by chance, in setups by chance; what may be is fair, and is taken as it was put.
func TestByChance(t *testing.T) {
	chance := rand.New(rand.NewSource(84))
	may := 0
	for range 20000 {
		s := sized(chance.Intn(12), chance.Intn(6), chance.Intn(12), chance.Intn(12), chance.Intn(12))
		e := drawn(chance)
		held(t, s, e)
		if !Check(s, e) {
			continue
		}
		may++
		b, err := Put(nil, e)
		if err != api.OK {
			t.Fatalf("%v may be, and is not fair: %d", e, err)
		}
		if got, rest, err := Take(b); got != e || len(rest) != 0 || err != api.OK {
			t.Fatalf("%v is taken as %v, %v, %d", e, got, rest, err)
		}
	}
	if may < 1000 {
		t.Errorf("%d events alone may be", may)
	}
}

// P8.4: many events, put one behind the other, are taken in that order, and nothing is left.
func TestManyBehind(t *testing.T) {
	chance := rand.New(rand.NewSource(85))
	var all []api.Event
	var b []byte
	for len(all) < 500 {
		e := drawn(chance)
		if !isFair(e) {
			continue
		}
		all = append(all, e)
		next, err := Put(b, e)
		if err != api.OK {
			t.Fatalf("Put(.., %v): %d", e, err)
		}
		b = next
	}
	for i, want := range all {
		e, rest, err := Take(b)
		if e != want || err != api.OK {
			t.Fatalf("event %d: %v, %d, want %v", i, e, err, want)
		}
		b = rest
	}
	if len(b) != 0 {
		t.Errorf("%v is left", b)
	}
}

// roomy is b with spare room behind it, and all of that memory.
func roomy(b []byte) ([]byte, []byte) {
	all := append(bytes.Clone(b), bytes.Repeat([]byte{0xa5}, 64)...)
	return all[:len(b)], all
}

// P8.2, R3: the bytes in front stay as they were, with their spare room, and the answer shares nothing with them.
func TestPutMemory(t *testing.T) {
	for _, e := range slices.Concat(ordinary(), ends(), []api.Event{{}, {Kind: 1, Code: 1}}) {
		front, all := roomy([]byte("front"))
		before := bytes.Clone(all)
		b, _ := Put(front, e)
		if !bytes.Equal(all, before) {
			t.Fatalf("Put(.., %v) changed what was handed in", e)
		}
		want := bytes.Clone(b)
		for i := range all {
			all[i]++
		}
		if !bytes.Equal(b, want) {
			t.Fatalf("Put(.., %v) shares memory with what was handed in", e)
		}
		changed := bytes.Clone(all)
		b = b[:cap(b)]
		for i := range b {
			b[i]++
		}
		if !bytes.Equal(all, changed) {
			t.Fatalf("Put(.., %v) shares spare room with what was handed in", e)
		}
	}
}

// P8.3, R3: the bytes stay as they were, with their spare room, and what is behind the event is in memory of its own.
func TestTakeMemory(t *testing.T) {
	for _, e := range slices.Concat(ordinary(), ends(), []api.Event{{}}) {
		for _, behind := range []string{"", "b", "behind"} {
			b, all := roomy(append(said(e), behind...))
			before := bytes.Clone(all)
			_, rest, _ := Take(b)
			if !bytes.Equal(all, before) {
				t.Fatalf("Take changed what was handed in, of %v", e)
			}
			rest = rest[:cap(rest)]
			for i := range rest {
				rest[i] ^= 0xff
			}
			if !bytes.Equal(all, before) {
				t.Fatalf("Take's rest shares memory with what was handed in, of %v", e)
			}
		}
	}
}

// P8.1, R3: the events stay as they were, with their spare room, and those in order are in memory of their own.
func TestSortMemory(t *testing.T) {
	for n := range 40 {
		all := make([]api.Event, n+5)
		for i := range all {
			all[i] = api.Event{ID: i, At: -i, Kind: 1}
		}
		before := slices.Clone(all)
		got := Sort(all[:n])
		if !slices.Equal(all, before) {
			t.Fatalf("Sort changed %d events that were handed in", n)
		}
		got = got[:cap(got)]
		for i := range got {
			got[i] = task
		}
		if !slices.Equal(all, before) {
			t.Fatalf("Sort's answer shares memory with %d events that were handed in", n)
		}
	}
	one := []api.Event{task}
	if got := Sort(one); &got[0] == &one[0] {
		t.Error("a single event is in the same memory")
	}
}

// P8.1, R3: a setup stays as it was.
func TestCheckMemory(t *testing.T) {
	s := ground()
	s.Rates[1], s.Elements[2].Fixed.Num, s.Classes[0].Den, s.Gears[3].Num = 1, 2, 3, 4
	for _, e := range slices.Concat(ordinary(), ends()) {
		Check(s, e)
	}
	want := ground()
	want.Rates[1], want.Elements[2].Fixed.Num, want.Classes[0].Den, want.Gears[3].Num = 1, 2, 3, 4
	if !slices.Equal(s.Rates, want.Rates) || !slices.Equal(s.Elements, want.Elements) || !slices.Equal(s.Classes, want.Classes) || !slices.Equal(s.Gears, want.Gears) {
		t.Errorf("%v", s)
	}
}

// room is how many bytes of memory a call asks for.
func room(call func()) uint64 {
	var before, after runtime.MemStats
	runtime.ReadMemStats(&before)
	call()
	runtime.ReadMemStats(&after)
	return after.TotalAlloc - before.TotalAlloc
}

// P8.3: what is behind an event is copied once, however much it is; beside an error it is not.
func TestLongBehind(t *testing.T) {
	behind := bytes.Repeat([]byte{1}, 1<<22)
	b := slices.Concat(said(task), behind)
	var rest []byte
	if used := room(func() { _, rest, _ = Take(b) }); used > 1<<23 {
		t.Errorf("%d bytes of memory", used)
	}
	if !bytes.Equal(rest, behind) {
		t.Error("what is behind")
	}
	b[0] = 9
	if used := room(func() { _, rest, _ = Take(b) }); used > 1<<16 || len(rest) != 0 {
		t.Errorf("%d bytes of memory, beside an error", used)
	}
}
