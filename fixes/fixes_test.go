package fixes

import (
	"math"
	"math/rand"
	"slices"
	"strconv"
	"testing"

	"lumper/api"
	"lumper/event"
	"lumper/setup"
)

const (
	// week, lastTime and maxTime are as the document says them.
	week     = 604800
	lastTime = 31449599
	maxTime  = 53 * week

	least    = math.MinInt
	greatest = math.MaxInt
)

var one = api.Ratio{Num: 1, Den: 1}

// with is a setup, that may be, of a unit, a cap and three workers.
func with(unit, longest int) api.Setup {
	return api.Setup{Places: 2, Pace: one, Elements: []api.Element{{Fixed: one, Unit: one}}, Classes: []api.Ratio{one}, Gears: []api.Ratio{one},
		Unit: unit, Cap: longest, Rates: []int{1, 2, 3}}
}

// in, and the others, are events of worker 0.
func in(id, at int) api.Event    { return api.Event{ID: id, At: at, Kind: api.EIn} }
func out(id, at int) api.Event   { return api.Event{ID: id, At: at, Kind: api.EOut} }
func rest(id, at int) api.Event  { return api.Event{ID: id, At: at, Kind: api.EBreak} }
func fault(id, at int) api.Event { return api.Event{ID: id, At: at, Kind: api.EFault} }
func task(id, at, units int) api.Event {
	return api.Event{ID: id, At: at, Kind: api.ETask, To: 1, Units: units}
}
func code(id, at, n int) api.Event {
	return api.Event{ID: id, At: at, Kind: api.ECode, Code: n}
}

// of is the event, of another worker.
func of(worker int, e api.Event) api.Event {
	e.Worker = worker
	return e
}

// insert, void and amend are corrections; number is an event that is nothing but its number.
func insert(e api.Event) api.Fix { return api.Fix{Kind: 1, Event: e} }
func void(e api.Event) api.Fix   { return api.Fix{Kind: 2, Event: e} }
func amend(e api.Event) api.Fix  { return api.Fix{Kind: 3, Event: e} }
func number(id int) api.Event    { return api.Event{ID: id} }

// list is a list of any things.
func list[T any](l ...T) []T { return l }

// weeks are those of a worker.
func weeks(worker int, numbers ...int) []api.Key {
	var l []api.Key
	for _, n := range numbers {
		l = append(l, api.Key{Worker: worker, Week: n})
	}
	return l
}

// inOrder is l's events, each put in front of the first one that it stands ahead of.
func inOrder(l []api.Event) []api.Event {
	var sorted []api.Event
	for _, e := range l {
		i := 0
		for i < len(sorted) && !(e.At < sorted[i].At || e.At == sorted[i].At && e.ID < sorted[i].ID) {
			i++
		}
		sorted = slices.Insert(sorted, i, e)
	}
	return sorted
}

// parted is the document's 'the event of a number', if there is one, and all others, as they stand in l.
func parted(l []api.Event, id int) (found, others []api.Event) {
	for _, e := range l {
		if e.ID == id && len(found) == 0 {
			found = list(e)
		} else {
			others = append(others, e)
		}
	}
	return found, others
}

// saidApply is what the document says of Apply, spelt out a second time.
func saidApply(s api.Setup, l []api.Event, f api.Fix) ([]api.Event, api.Errno) {
	found, others := parted(l, f.Event.ID)
	if f.Kind != 1 && f.Kind != 2 && f.Kind != 3 || f.Kind != 2 && !event.Check(s, f.Event) {
		return nil, 80
	}
	if f.Kind == 1 && len(found) == 1 {
		return nil, 130
	}
	if f.Kind != 1 && len(found) == 0 {
		return nil, 131
	}
	if f.Kind != 2 {
		others = append(others, f.Event)
	}
	return inOrder(others), api.OK
}

// taken is n, as the document takes numbers below 0, and above most.
func taken(n, most int) int {
	if n < 0 {
		return 0
	}
	if n > most {
		return most
	}
	return n
}

// touches is what the document says of an event, a worker and a week: by a second of that week that is near enough.
func touches(s api.Setup, e api.Event, worker, n int) bool {
	far := taken(s.Unit, week) + taken(s.Cap, week)
	t := taken(e.At, maxTime-1)
	return e.Worker == worker && n*week <= t+far && t-far < (n+1)*week
}

// saidTouched is what the document says of Touched: each week of each worker is asked.
func saidTouched(s api.Setup, l []api.Event, f api.Fix) []api.Key {
	var about []api.Event
	if f.Kind == 2 || f.Kind == 3 {
		about, _ = parted(l, f.Event.ID)
	}
	if f.Kind == 1 || f.Kind == 3 {
		about = append(about, f.Event)
	}
	var workers []int
	for _, e := range about {
		workers = append(workers, e.Worker)
	}
	slices.Sort(workers)
	var keys []api.Key
	for _, worker := range slices.Compact(workers) {
		for n := range 53 {
			if slices.ContainsFunc(about, func(e api.Event) bool { return touches(s, e, worker, n) }) {
				keys = append(keys, api.Key{Worker: worker, Week: n})
			}
		}
	}
	return keys
}

// check holds all calls of a correction against the document's words; the list, with its spare room, and the setup stay as they were.
func check(t *testing.T, name string, s api.Setup, l []api.Event, f api.Fix) {
	t.Helper()
	was := slices.Clone(l[:cap(l)])
	found, _ := parted(l, f.Event.ID)
	e, there := Find(l, f.Event.ID)
	if there != (len(found) == 1) || there && e != found[0] || !there && e != (api.Event{}) {
		t.Fatalf("%s: Find(%v, %d) = %v, %v", name, l, f.Event.ID, e, there)
	}
	got, err := Apply(s, l, f)
	want, wantErr := saidApply(s, l, f)
	if !slices.Equal(got, want) || err != wantErr {
		t.Fatalf("%s: Apply(%v, %v) = %v, %d, want %v, %d", name, l, f, got, err, want, wantErr)
	}
	if got, want := Touched(s, l, f), saidTouched(s, l, f); !slices.Equal(got, want) {
		t.Fatalf("%s: Touched(%d, %d, %v, %v) = %v, want %v", name, s.Unit, s.Cap, l, f, got, want)
	}
	if !slices.Equal(l[:cap(l)], was) {
		t.Fatalf("%s: %v was changed: %v", name, was, l[:cap(l)])
	}
}

// P13.1: numbers that events have, and have not.
func TestFind(t *testing.T) {
	l := list(in(5, 100), out(3, 200), of(2, task(0, 150, 7)), of(1, code(-4, 9, 8)), in(100000, 0), number(greatest), number(least))
	for _, e := range l {
		if got, there := Find(l, e.ID); got != e || !there {
			t.Errorf("Find of %d = %v, %v", e.ID, got, there)
		}
	}
	for _, id := range list(-1, -5, -3, 1, 2, 4, 6, 100, 150, 99999, 100001, greatest-1, least+1, 1<<32+5) {
		if e, there := Find(l, id); e != (api.Event{}) || there {
			t.Errorf("Find of %d = %v, %v", id, e, there)
		}
	}
	// What is no longer in the list is not looked at.
	if e, there := Find(l[:2], 0); e != (api.Event{}) || there {
		t.Errorf("behind the list: %v, %v", e, there)
	}
}

// P13.1: of no events there is none, of number 0 neither; an event without anything is one of number 0.
func TestFindNone(t *testing.T) {
	for _, l := range [][]api.Event{nil, {}, list(in(1, 0))[:0], list(in(1, 0))} {
		for _, id := range list(0, -1, 2, least, greatest) {
			if e, there := Find(l, id); e != (api.Event{}) || there {
				t.Errorf("Find(%v, %d) = %v, %v", l, id, e, there)
			}
		}
	}
	if e, there := Find(list(in(1, 0), api.Event{}), 0); e != (api.Event{}) || !there {
		t.Errorf("%v, %v", e, there)
	}
}

// P13.1: of two events of a number it is the one that is in front, wherever the two stand, whichever is the earlier one.
func TestFindTwo(t *testing.T) {
	for size := 2; size < 8; size++ {
		for i := range size {
			for j := range i {
				for _, at := range list(5, 500) {
					var l []api.Event
					for id := range size {
						l = append(l, in(10+id, 100))
					}
					l[j], l[i] = in(9, at), out(9, 100)
					if e, there := Find(l, 9); e != l[j] || !there {
						t.Errorf("%v: %v, %v", l, e, there)
					}
				}
			}
		}
	}
}

// known is a correction, and what is told of it.
type known struct {
	name string
	l    []api.Event
	f    api.Fix
	want []api.Event
	err  api.Errno
}

// shift are a worker's events, in order; mixed are some of two workers, in none.
func shift() []api.Event { return list(in(4, 100), task(2, 200, 5), rest(7, 300), out(1, 400)) }
func mixed() []api.Event { return list(of(1, out(6, 500)), in(3, 50), of(1, in(9, 20)), fault(5, 50)) }

// puts are corrections that put an event in.
func puts() []known {
	a, b, c, d := shift()[0], shift()[1], shift()[2], shift()[3]
	m := mixed()
	return []known{
		{"into nothing", nil, insert(in(1, 5)), list(in(1, 5)), api.OK},
		{"into an empty list", []api.Event{}, insert(in(0, 0)), list(in(0, 0)), api.OK},
		{"ahead of all", shift(), insert(rest(5, 99)), list(rest(5, 99), a, b, c, d), api.OK},
		{"in between", shift(), insert(code(5, 250, 99)), list(a, b, code(5, 250, 99), c, d), api.OK},
		{"behind all", shift(), insert(fault(5, 401)), list(a, b, c, d, fault(5, 401)), api.OK},
		{"of a time that is there, a lower number", shift(), insert(rest(0, 200)), list(a, rest(0, 200), b, c, d), api.OK},
		{"of a time that is there, a greater number", shift(), insert(rest(3, 200)), list(a, b, rest(3, 200), c, d), api.OK},
		{"of another worker", shift(), insert(of(2, in(100000, 150))), list(a, of(2, in(100000, 150)), b, c, d), api.OK},
		{"at the last second", shift(), insert(out(8, lastTime)), list(a, b, c, d, out(8, lastTime)), api.OK},
		{"told unsorted", mixed(), insert(out(4, 50)), list(m[2], m[1], out(4, 50), m[3], m[0]), api.OK},
		{"a number that is there", shift(), insert(rest(7, 250)), nil, 130},
		{"an event that is there", shift(), insert(c), nil, 130},
		{"a number of another worker's", mixed(), insert(in(6, 5)), nil, 130},
		{"a number that is there twice", list(in(1, 5), in(1, 6)), insert(in(1, 7)), nil, 130},
		{"two of another number stay", list(in(1, 6), in(1, 5)), insert(in(2, 7)), list(in(1, 5), in(1, 6), in(2, 7)), api.OK},
	}
}

// takes are corrections that take an event out.
func takes() []known {
	a, b, c, d := shift()[0], shift()[1], shift()[2], shift()[3]
	m := mixed()
	wild := api.Event{ID: 2, Worker: -9, At: least, Kind: 77, From: -1, To: greatest, Element: -2, Units: least, Class: 9, Gear: -9, Code: 1000}
	return []known{
		{"the first one", shift(), void(number(4)), list(b, c, d), api.OK},
		{"in between", shift(), void(number(2)), list(a, c, d), api.OK},
		{"the last one", shift(), void(number(1)), list(a, b, c), api.OK},
		{"the only one", list(a), void(number(4)), nil, api.OK},
		{"told as it is", shift(), void(c), list(a, b, d), api.OK},
		{"told otherwise", shift(), void(of(2, code(7, 5, 5))), list(a, b, d), api.OK},
		{"told as one that may not be", shift(), void(wild), list(a, c, d), api.OK},
		{"of number 0", list(in(1, 5), out(0, 7)), void(api.Event{}), list(in(1, 5)), api.OK},
		{"of a number below 0", list(in(1, 5), out(-3, 7)), void(number(-3)), list(in(1, 5)), api.OK},
		{"told unsorted", mixed(), void(number(3)), list(m[2], m[3], m[0]), api.OK},
		{"of two the first one, that is later", list(out(1, 90), in(2, 5), in(1, 10)), void(number(1)), list(in(2, 5), in(1, 10)), api.OK},
		{"of two the first one, that is earlier", list(in(1, 10), in(2, 5), out(1, 90)), void(number(1)), list(in(2, 5), out(1, 90)), api.OK},
		{"one that is there twice, once", list(a, a, b), void(a), list(a, b), api.OK},
		{"out of nothing", nil, void(number(4)), nil, 131},
		{"number 0 out of nothing", []api.Event{}, void(api.Event{}), nil, 131},
		{"a number that is not there", shift(), void(number(3)), nil, 131},
		{"number 0, that is not there", shift(), void(api.Event{}), nil, 131},
		{"a number below 0", shift(), void(number(-4)), nil, 131},
		{"an event that may be, not there", shift(), void(in(5, 100)), nil, 131},
		{"an event that may not be, not there", shift(), void(api.Event{ID: 5, Kind: 9, At: -1}), nil, 131},
	}
}

// turns are corrections that change an event.
func turns() []known {
	a, b, c, d := shift()[0], shift()[1], shift()[2], shift()[3]
	m := mixed()
	return []known{
		{"its second, ahead of all", shift(), amend(rest(7, 99)), list(rest(7, 99), a, b, d), api.OK},
		{"its second, behind all", shift(), amend(rest(7, 401)), list(a, b, d, rest(7, 401)), api.OK},
		{"its second, where it stands", shift(), amend(rest(7, 301)), list(a, b, rest(7, 301), d), api.OK},
		{"the first one, behind all", shift(), amend(in(4, lastTime)), list(b, c, d, in(4, lastTime)), api.OK},
		{"the last one, ahead of all", shift(), amend(out(1, 0)), list(out(1, 0), a, b, c), api.OK},
		{"the last one, to the first one's second", shift(), amend(out(1, 100)), list(out(1, 100), a, b, c), api.OK},
		{"the first one, to the last one's second", shift(), amend(in(4, 400)), list(b, c, d, in(4, 400)), api.OK},
		{"its worker", shift(), amend(of(2, c)), list(a, b, of(2, c), d), api.OK},
		{"its kind", shift(), amend(code(7, 300, 12)), list(a, b, code(7, 300, 12), d), api.OK},
		{"its units", shift(), amend(task(2, 200, 10000)), list(a, task(2, 200, 10000), c, d), api.OK},
		{"nothing", shift(), amend(b), shift(), api.OK},
		{"nothing of the first one", shift(), amend(a), shift(), api.OK},
		{"nothing of the last one", shift(), amend(d), shift(), api.OK},
		{"the only one", list(a), amend(out(4, 7)), list(out(4, 7)), api.OK},
		{"told unsorted", mixed(), amend(out(9, 50)), list(m[1], m[3], out(9, 50), m[0]), api.OK},
		{"nothing, told unsorted", mixed(), amend(m[3]), list(m[2], m[1], m[3], m[0]), api.OK},
		{"of two the first one", list(in(1, 90), in(2, 50), out(1, 10)), amend(rest(1, 60)), list(out(1, 10), in(2, 50), rest(1, 60)), api.OK},
		{"of two the first one, to the second of the other one", list(in(1, 10), in(2, 50), out(1, 90)), amend(rest(1, 90)), list(in(2, 50), out(1, 90), rest(1, 90)), api.OK},
		{"of two at one second the first one, nothing", list(in(1, 10), out(1, 10)), amend(in(1, 10)), list(out(1, 10), in(1, 10)), api.OK},
		{"one that may not be", list(a, api.Event{ID: 5, At: 300, Kind: 9}), amend(rest(5, 99)), list(rest(5, 99), a), api.OK},
		{"of nothing", nil, amend(a), nil, 131},
		{"a number that is not there", shift(), amend(in(5, 100)), nil, 131},
		{"number 0, that is not there", shift(), amend(in(0, 100)), nil, 131},
	}
}

// wrongs are corrections of kinds that there are not, and with events that may not be.
func wrongs() []known {
	var l []known
	for _, kind := range list(0, -1, -2, -3, 4, 5, 255, 256, 257, 258, 259, 1<<32+1, 1<<32+2, least, least+1, least+2, greatest) {
		for _, e := range list(in(5, 5), in(4, 5), shift()[0], number(4), number(5), api.Event{}, api.Event{ID: 4, Kind: 9}) {
			l = append(l, known{"kind " + strconv.Itoa(kind), shift(), api.Fix{Kind: kind, Event: e}, nil, 80})
		}
		l = append(l, known{"kind " + strconv.Itoa(kind) + " of nothing", nil, api.Fix{Kind: kind}, nil, 80})
	}
	for _, id := range list(2, 5) {
		for _, e := range list(number(id), of(3, in(id, 5)), of(-1, in(id, 5)), in(id, -1), in(id, lastTime+1), in(id, maxTime), code(id, 5, 100), code(id, 5, -1),
			task(id, 5, 10001), api.Event{ID: id, At: 5, Kind: 8}, api.Event{ID: id, At: 5, Kind: -3}, api.Event{ID: id, At: 5, Kind: 1, Code: 1}, api.Event{ID: id, Kind: 3, From: 2}) {
			l = append(l, known{"put one that may not be", shift(), insert(e), nil, 80}, known{"amend to one that may not be", shift(), amend(e), nil, 80},
				known{"put one that may not be into nothing", nil, insert(e), nil, 80}, known{"amend to one that may not be of nothing", nil, amend(e), nil, 80})
		}
	}
	for _, id := range list(-1, 100001, least, greatest) {
		there := list(in(id, 5))
		l = append(l, known{"put a number that may not be", nil, insert(in(id, 5)), nil, 80}, known{"put one that may not be, that is there", there, insert(in(id, 5)), nil, 80},
			known{"amend to a number that may not be", there, amend(in(id, 5)), nil, 80}, known{"take a number that may not be", there, void(number(id)), nil, api.OK})
	}
	return l
}

// P13.1 to P13.3: corrections whose answers are written out here.
func TestKnown(t *testing.T) {
	s := with(900, 3600)
	if !setup.Check(s) {
		t.Fatal("the setup may not be")
	}
	for _, c := range slices.Concat(puts(), takes(), turns(), wrongs()) {
		if got, err := Apply(s, c.l, c.f); !slices.Equal(got, c.want) || err != c.err {
			t.Errorf("%s: Apply(%v, %v) = %v, %d, want %v, %d", c.name, c.l, c.f, got, err, c.want, c.err)
		}
		check(t, c.name, s, c.l, c.f)
	}
}

// P13.2: the chapter's example.
func TestExample(t *testing.T) {
	got, err := Apply(with(900, 3600), list(in(1, 100), out(2, 200)), amend(in(1, 300)))
	if err != api.OK || !slices.Equal(got, list(out(2, 200), in(1, 300))) {
		t.Errorf("%v, %d", got, err)
	}
}

// P13.2: each error is told ahead of the next one, by each kind, of an event that may be or not, whose number is there or not.
func TestErrors(t *testing.T) {
	s := with(900, 3600)
	for _, c := range []struct {
		kind               int
		fine, there        bool
		err, ofNothingElse api.Errno
	}{
		{0, true, true, 80, 80}, {0, true, false, 80, 80}, {0, false, true, 80, 80}, {0, false, false, 80, 80},
		{1, true, true, 130, 130}, {1, true, false, 0, 0}, {1, false, true, 80, 80}, {1, false, false, 80, 80},
		{2, true, true, 0, 0}, {2, true, false, 131, 131}, {2, false, true, 0, 0}, {2, false, false, 131, 131},
		{3, true, true, 0, 0}, {3, true, false, 131, 131}, {3, false, true, 80, 80}, {3, false, false, 80, 80},
		{4, true, true, 80, 80}, {4, true, false, 80, 80}, {4, false, true, 80, 80}, {4, false, false, 80, 80},
	} {
		e := in(6, 250)
		if !c.fine {
			e.Code = 1
		}
		var alone []api.Event
		l := shift()
		if c.there {
			alone = list(out(6, 9))
			l = append(l, out(6, 9))
		}
		f := api.Fix{Kind: c.kind, Event: e}
		if got, err := Apply(s, l, f); err != c.err || err != api.OK && len(got) != 0 {
			t.Errorf("%v: %v, %d", c, got, err)
		}
		if got, err := Apply(s, alone, f); err != c.ofNothingElse || err != api.OK && len(got) != 0 {
			t.Errorf("%v, alone: %v, %d", c, got, err)
		}
	}
}

// P13.2: what may be is asked of the setup that is handed in, whatever that is.
func TestSetups(t *testing.T) {
	l := list(in(1, 100), of(2, out(2, 200)))
	none, few := api.Setup{}, api.Setup{Rates: []int{-5}}
	for _, c := range []struct {
		s    api.Setup
		f    api.Fix
		want []api.Event
		err  api.Errno
	}{
		{none, insert(in(3, 5)), nil, 80},
		{none, amend(in(1, 5)), nil, 80},
		{none, void(number(2)), list(in(1, 100)), api.OK},
		{few, insert(in(3, 5)), list(in(3, 5), l[0], l[1]), api.OK},
		{few, insert(of(1, in(3, 5))), nil, 80},
		{few, insert(task(3, 5, 5)), nil, 80},
		{few, amend(out(2, 5)), list(out(2, 5), l[0]), api.OK},
		{few, amend(of(2, out(2, 5))), nil, 80},
		{with(0, 59), insert(task(3, 150, 5)), list(l[0], task(3, 150, 5), l[1]), api.OK},
		{with(-1, 57601), amend(task(1, 201, 5)), list(l[1], task(1, 201, 5)), api.OK},
	} {
		if setup.Check(c.s) {
			t.Errorf("%v may be", c.s)
		}
		if got, err := Apply(c.s, l, c.f); !slices.Equal(got, c.want) || err != c.err {
			t.Errorf("Apply(%v, %v) = %v, %d, want %v, %d", c.s, c.f, got, err, c.want, c.err)
		}
		check(t, "setup", c.s, l, c.f)
	}
}

// often asks Touched so many times that, if answers hung on a map's order, unlike ones would be seen.
func often(t *testing.T, name string, s api.Setup, l []api.Event, f api.Fix, want []api.Key) {
	t.Helper()
	for range 60 {
		if got := Touched(s, l, f); !slices.Equal(got, want) {
			t.Fatalf("%s: Touched(%d, %d, %v, %v) = %v, want %v", name, s.Unit, s.Cap, l, f, got, want)
		}
	}
}

// P13.3: weeks of one event, put in, taken out, and changed to itself; in the middle of one, about the ends, and at those of all.
func TestTouchedOfOne(t *testing.T) {
	s := with(900, 3600)
	for _, c := range []struct {
		at   int
		want []int
	}{
		{0, list(0)}, {1, list(0)}, {4499, list(0)}, {4500, list(0)}, {300000, list(0)}, {week - 4501, list(0)},
		{week - 4500, list(0, 1)}, {week - 4499, list(0, 1)}, {week - 1, list(0, 1)}, {week, list(0, 1)}, {week + 1, list(0, 1)}, {week + 4499, list(0, 1)},
		{week + 4500, list(1)}, {week + 4501, list(1)}, {week + 300000, list(1)}, {2*week - 4501, list(1)}, {2*week - 4500, list(1, 2)}, {9*week - 1, list(8, 9)},
		{10 * week, list(9, 10)}, {51*week + 4499, list(50, 51)}, {51*week + 4500, list(51)}, {lastTime - 4500, list(51)}, {lastTime - 4499, list(51, 52)}, {lastTime, list(51, 52)},
		// Events that may not be.
		{-1, list(0)}, {-week, list(0)}, {least, list(0)}, {lastTime + 1, list(51, 52)}, {52*week + 4500, list(52)}, {maxTime - 1, list(52)}, {maxTime, list(52)}, {greatest, list(52)},
	} {
		for _, worker := range list(0, 2) {
			name := strconv.Itoa(c.at)
			e := of(worker, in(5, c.at))
			l := list(of(1, in(4, 7)), e, of(1, in(6, 30*week)))
			want := weeks(worker, c.want...)
			often(t, name, s, l[:1], insert(e), want)
			often(t, name, s, nil, insert(e), want)
			often(t, name, s, l, void(number(5)), want)
			often(t, name, s, l, amend(e), want)
			for _, f := range list(insert(e), void(e), void(number(5)), amend(e)) {
				check(t, name, s, l, f)
				check(t, name, s, nil, f)
			}
		}
	}
}

// P13.3: weeks of an amend: the same, overlapping, apart; of one worker, and of two; and the other way round.
func TestTouchedOfTwo(t *testing.T) {
	s := with(900, 3600)
	for _, c := range []struct {
		name     string
		old, own api.Event
		want     []api.Key
	}{
		{"the same one", in(1, 100000), in(1, 500000), weeks(0, 0)},
		{"the same two", in(1, week-9), in(1, week+9), weeks(0, 0, 1)},
		{"one of two", in(1, 100000), in(1, week), weeks(0, 0, 1)},
		{"two that overlap", in(1, 3*week), in(1, 4*week), weeks(0, 2, 3, 4)},
		{"next to one another", in(1, 3*week+9000), in(1, 4*week+9000), weeks(0, 3, 4)},
		{"two, next to two", in(1, 5*week), in(1, 7*week), weeks(0, 4, 5, 6, 7)},
		{"apart", in(1, 9*week+9000), in(1, 4*week+9000), weeks(0, 4, 9)},
		{"two, apart", in(1, 9*week), in(1, 40*week), weeks(0, 8, 9, 39, 40)},
		{"the first and the last one", in(1, 0), in(1, lastTime), weeks(0, 0, 51, 52)},
		{"of two workers, the same", in(1, 100000), of(1, in(1, 100000)), slices.Concat(weeks(0, 0), weeks(1, 0))},
		{"of two workers, the same two", of(2, in(1, week)), of(1, in(1, week)), slices.Concat(weeks(1, 0, 1), weeks(2, 0, 1))},
		{"of two workers, overlapping", of(2, in(1, 2*week)), in(1, 3*week), slices.Concat(weeks(0, 2, 3), weeks(2, 1, 2))},
		{"of two workers, apart", in(1, 20*week), of(2, in(1, 10*week)), slices.Concat(weeks(0, 19, 20), weeks(2, 9, 10))},
		{"of two workers, one and two", of(1, in(1, 20*week+9000)), of(2, in(1, 10*week)), slices.Concat(weeks(1, 20), weeks(2, 9, 10))},
		{"of two workers, the ends", of(1, in(1, lastTime)), of(2, in(1, 0)), slices.Concat(weeks(1, 51, 52), weeks(2, 0))},
		{"of a kind", in(1, 2*week), fault(1, 2*week), weeks(0, 1, 2)},
	} {
		for _, way := range list(list(c.old, c.own), list(c.own, c.old)) {
			for _, l := range list(way[:1], list(of(2, in(8, 33*week)), way[0], out(3, 44*week)), list(out(3, 44*week), in(0, 12*week), way[0])) {
				often(t, c.name, s, l, amend(way[1]), c.want)
				check(t, c.name, s, l, amend(way[1]))
			}
		}
	}
}

// P13.3: of FInsert the event that is there touches nothing, of FVoid the correction's own one; of two of a number the first one does alone.
func TestTouchedByWhich(t *testing.T) {
	s := with(900, 3600)
	l := list(of(2, in(1, 9*week)), in(2, 100000), of(1, out(1, 20*week)))
	for _, c := range []struct {
		name string
		f    api.Fix
		want []api.Key
	}{
		{"insert, there already", insert(in(1, 3*week)), weeks(0, 2, 3)},
		{"void", void(in(1, 3*week)), weeks(2, 8, 9)},
		{"void, a number alone", void(number(1)), weeks(2, 8, 9)},
		{"void, not there", void(in(3, 3*week)), nil},
		{"amend", amend(in(1, 3*week)), slices.Concat(weeks(0, 2, 3), weeks(2, 8, 9))},
		{"amend, not there", amend(of(1, in(3, 3*week))), weeks(1, 2, 3)},
		{"insert of one that may not be", insert(of(-7, in(3, -5))), weeks(-7, 0)},
		{"insert of one that may not be, there already", insert(of(7, number(1))), weeks(7, 0)},
		{"amend to one that may not be", amend(api.Event{ID: 2, Worker: least, At: greatest, Kind: 9}), slices.Concat(weeks(least, 52), weeks(0, 0))},
		{"amend to one that may not be, not there", amend(api.Event{ID: -2, Worker: greatest, At: least}), weeks(greatest, 0)},
		{"void of a number below 0", void(number(-1)), nil},
		{"void of number 0", void(api.Event{}), nil},
		{"amend of number 0", amend(api.Event{}), weeks(0, 0)},
		{"kind 0", api.Fix{Event: in(1, 3*week)}, nil},
		{"kind -1", api.Fix{Kind: -1, Event: in(1, 3*week)}, nil},
		{"kind 4", api.Fix{Kind: 4, Event: in(1, 3*week)}, nil},
		{"kind 257", api.Fix{Kind: 257, Event: in(3, 3*week)}, nil},
		{"the least kind", api.Fix{Kind: least, Event: in(1, 3*week)}, nil},
		{"the greatest kind", api.Fix{Kind: greatest, Event: in(1, 3*week)}, nil},
	} {
		often(t, c.name, s, l, c.f, c.want)
		check(t, c.name, s, l, c.f)
	}
	often(t, "void of nothing", s, nil, void(number(1)), nil)
	often(t, "amend of nothing", s, nil, amend(in(1, 3*week)), weeks(0, 2, 3))
}

// P13.3: setups of all units and caps, those that may not be too, of which up to five weeks lie about an event.
func TestTouchedSetups(t *testing.T) {
	l := list(of(1, in(1, 10*week)), in(2, 20*week-1))
	for _, c := range []struct {
		unit, longest int
		want          []int
	}{
		{1, 60, list(9, 10)}, {3600, 57600, list(9, 10)}, {0, 0, list(10)}, {-5, -5, list(10)}, {least, least, list(10)}, {least, 1, list(9, 10)}, {1, least, list(9, 10)},
		{week, 0, list(9, 10, 11)}, {0, week, list(9, 10, 11)}, {week, 1, list(8, 9, 10, 11)}, {week, week, list(8, 9, 10, 11, 12)},
		{week + 1, greatest, list(8, 9, 10, 11, 12)}, {greatest, greatest, list(8, 9, 10, 11, 12)}, {greatest, 0, list(9, 10, 11)},
	} {
		s := with(c.unit, c.longest)
		often(t, "setup", s, l, void(number(1)), weeks(1, c.want...))
		for _, f := range list(insert(of(2, in(5, 30*week))), void(number(2)), amend(in(1, 10*week)), amend(of(1, in(1, 12*week))), amend(in(2, 0)), amend(of(2, in(2, lastTime)))) {
			often(t, "setup", s, l, f, saidTouched(s, l, f))
			check(t, "setup", s, l, f)
		}
	}
	// No more is asked of a setup than its unit and its cap.
	s := api.Setup{Unit: 900, Cap: 3600}
	often(t, "no workers", s, l, amend(of(5, in(1, 11*week))), slices.Concat(weeks(1, 9, 10), weeks(5, 10, 11)))
}

// odd is a number by chance, as events, and setups, may be made of by hand.
func odd(r *rand.Rand) int {
	return list(0, 0, 0, 1, 2, 3, 4, 5, 7, 9, 100, -1, week, lastTime, lastTime+1, maxTime, 100001, least, greatest, 1<<62, int(r.Uint64()))[r.Intn(21)]
}

// drawn is an event by chance, of few numbers and of seconds near one another, or about the ends of weeks; now and then one that may not be.
func drawn(r *rand.Rand) api.Event {
	e := api.Event{ID: r.Intn(12), Worker: r.Intn(3), At: 90 + r.Intn(8), Kind: list(1, 2, 5, 6, 7)[r.Intn(5)]}
	switch r.Intn(4) {
	case 0:
		e.At = max(0, min(lastTime, r.Intn(53)*week+r.Intn(10000)-5000))
	case 1:
		e.At = r.Intn(lastTime + 1)
	}
	switch r.Intn(12) {
	case 0:
		e = of(e.Worker, task(e.ID, e.At, r.Intn(9)))
	case 1:
		e = of(e.Worker, code(e.ID, e.At, r.Intn(100)))
	case 2:
		*list(&e.ID, &e.Worker, &e.At, &e.Kind, &e.From, &e.Units, &e.Code)[r.Intn(7)] = odd(r)
	}
	return e
}

// some are events by chance, in no order; of unlike numbers, if they are to be apart.
func some(r *rand.Rand, most int, apart bool) []api.Event {
	var l []api.Event
	for range r.Intn(most + 1) {
		if e := drawn(r); !apart || !slices.ContainsFunc(l, func(o api.Event) bool { return o.ID == e.ID }) {
			l = append(l, e)
		}
	}
	// What stands in their spare room is of numbers that are asked for, too.
	return append(slices.Clip(l), drawn(r), drawn(r))[:len(l)]
}

// correction is one by chance, mostly of an event that is there or may be.
func correction(r *rand.Rand, l []api.Event) api.Fix {
	f := api.Fix{Kind: 1 + r.Intn(3), Event: drawn(r)}
	if r.Intn(20) == 0 {
		f.Kind = odd(r)
	}
	if len(l) > 0 && r.Intn(3) > 0 {
		there := l[r.Intn(len(l))]
		f.Event.ID = there.ID
		if r.Intn(6) == 0 {
			f.Event = there
		}
	}
	return f
}

// shapes are setups of units and caps of all kinds.
func shapes(r *rand.Rand) api.Setup {
	s := with(1+r.Intn(3600), 60+r.Intn(57541))
	switch r.Intn(8) {
	case 0:
		s.Unit, s.Cap = 3600, 57600
	case 1:
		s.Unit, s.Cap = odd(r), odd(r)
	case 2:
		s.Places, s.Rates = odd(r), s.Rates[:r.Intn(4)]
	}
	return s
}

// P13.1 to P13.3, R1: events, corrections and setups by chance, hand-made ones too.
func TestSome(t *testing.T) {
	r := rand.New(rand.NewSource(131))
	told := map[api.Errno]int{}
	for i := range 40000 {
		s, l := shapes(r), some(r, 10, false)
		f := correction(r, l)
		check(t, strconv.Itoa(i), s, l, f)
		_, err := Apply(s, l, f)
		told[err]++
	}
	for _, err := range []api.Errno{0, 80, 130, 131} {
		if told[err] < 1000 {
			t.Errorf("%d is told %d times alone", err, told[err])
		}
	}
}

// P13.1 to P13.3: all short lists of events of few numbers and seconds, and all corrections by the like.
func TestEachShortList(t *testing.T) {
	var single []api.Event
	for _, at := range list(week-4500, week+7, 2*week+4500) {
		for id := range 2 {
			single = append(single, in(id, at), of(1, out(id, at)))
		}
	}
	s := with(900, 3600)
	var l []api.Event
	var grow func(int)
	grow = func(left int) {
		for kind := range 5 {
			for _, e := range single {
				check(t, "short", s, l, api.Fix{Kind: kind, Event: e})
			}
		}
		if left == 0 {
			return
		}
		for _, e := range single {
			l = append(l, e)
			grow(left - 1)
			l = l[:len(l)-1]
		}
	}
	grow(3)
}

// P13.2: many events, told in no order, each of them taken out, and changed.
func TestMany(t *testing.T) {
	r := rand.New(rand.NewSource(132))
	s := with(900, 3600)
	var l []api.Event
	for _, id := range r.Perm(300) {
		l = append(l, of(r.Intn(3), in(id, r.Intn(40))))
	}
	for id := range 302 {
		for _, f := range list(insert(rest(id, 20)), void(number(id)), amend(rest(id, 20)), amend(rest(id, 50)), amend(of(2, rest(id, 0)))) {
			check(t, "many", s, l, f)
		}
	}
}

// P13.4: what was put in, and is taken out, is as it was, in order; and the other way round.
func TestBack(t *testing.T) {
	r := rand.New(rand.NewSource(133))
	done := 0
	for range 20000 {
		s, l := shapes(r), some(r, 12, true)
		e := drawn(r)
		if more, err := Apply(s, l, insert(e)); err == api.OK {
			done++
			if got, err := Apply(s, more, void(number(e.ID))); err != api.OK || !slices.Equal(got, event.Sort(l)) {
				t.Fatalf("%v, and back: %v, %d, of %v", e, got, err, l)
			}
			if there, ok := Find(more, e.ID); there != e || !ok || len(more) != len(l)+1 {
				t.Fatalf("%v is not there: %v", e, more)
			}
			if a, b := Touched(s, l, insert(e)), Touched(s, more, void(number(e.ID))); !slices.Equal(a, b) {
				t.Fatalf("%v: %v, and %v", e, a, b)
			}
		}
		there, ok := Find(l, e.ID)
		less, err := Apply(s, l, void(e))
		if ok != (err == api.OK) {
			t.Fatalf("%v of %v: %d", e, l, err)
		}
		if !ok || !event.Check(s, there) {
			continue
		}
		done++
		if got, err := Apply(s, less, insert(there)); err != api.OK || !slices.Equal(got, event.Sort(l)) {
			t.Fatalf("without %v, and back: %v, %d, of %v", there, got, err, l)
		}
		turned, err := Apply(s, l, amend(e))
		if err != api.OK {
			continue
		}
		if got, err := Apply(s, turned, amend(there)); err != api.OK || !slices.Equal(got, event.Sort(l)) {
			t.Fatalf("%v, and back: %v, %d, of %v", e, got, err, l)
		}
		if got, err := Apply(s, less, insert(e)); err != api.OK || !slices.Equal(got, turned) {
			t.Fatalf("%v, in two: %v, %d, of %v", e, got, err, l)
		}
	}
	if done < 5000 {
		t.Errorf("%d corrections alone", done)
	}
}

// both is what two corrections leave, one behind the other, and their errors; of one with an error the events are as they were.
func both(s api.Setup, l []api.Event, a, b api.Fix) ([]api.Event, api.Errno, api.Errno) {
	l = event.Sort(l)
	told := list(api.OK, api.OK)
	for i, f := range list(a, b) {
		more, err := Apply(s, l, f)
		if told[i] = err; err == api.OK {
			l = more
		}
	}
	return l, told[0], told[1]
}

// P13.4: corrections of unlike events do not hang on their order: neither what they leave, nor their errors, nor what they touch.
func TestUnlike(t *testing.T) {
	r := rand.New(rand.NewSource(134))
	done := 0
	for range 20000 {
		s, l := shapes(r), some(r, 12, true)
		a, b := correction(r, l), correction(r, l)
		if a.Event.ID == b.Event.ID {
			continue
		}
		one, oneA, oneB := both(s, l, a, b)
		other, otherB, otherA := both(s, l, b, a)
		if !slices.Equal(one, other) || oneA != otherA || oneB != otherB {
			t.Fatalf("%v and %v of %v: %v, %d, %d and %v, %d, %d", a, b, l, one, oneA, oneB, other, otherA, otherB)
		}
		if oneA != api.OK || oneB != api.OK {
			continue
		}
		done++
		behind, err := Apply(s, l, a)
		if got, want := Touched(s, behind, b), Touched(s, l, b); err != api.OK || !slices.Equal(got, want) {
			t.Fatalf("%v behind %v of %v: %v, want %v", b, a, l, got, want)
		}
	}
	if done < 2000 {
		t.Errorf("%d pairs alone", done)
	}
}

// P13.4: what is told in another order is corrected to the same, if no two have the same number.
func TestInWhateverOrder(t *testing.T) {
	r := rand.New(rand.NewSource(135))
	for range 4000 {
		s, l := shapes(r), some(r, 12, true)
		f := correction(r, l)
		want, wantErr := Apply(s, l, f)
		keys := Touched(s, l, f)
		for range 4 {
			r.Shuffle(len(l), func(i, j int) { l[i], l[j] = l[j], l[i] })
			if got, err := Apply(s, l, f); !slices.Equal(got, want) || err != wantErr {
				t.Fatalf("%v of %v: %v, %d, want %v, %d", f, l, got, err, want, wantErr)
			}
			if got := Touched(s, l, f); !slices.Equal(got, keys) {
				t.Fatalf("%v of %v: %v, want %v", f, l, got, keys)
			}
		}
	}
}

// P13.4: at most four weeks are touched, if the setup may be, at most two of a correction of one event; and no more than two workers' ones.
func TestFew(t *testing.T) {
	r := rand.New(rand.NewSource(136))
	most := 0
	for range 40000 {
		s := shapes(r)
		if !setup.Check(s) {
			continue
		}
		l := some(r, 6, false)
		f := correction(r, l)
		got := Touched(s, l, f)
		if len(got) > 4 || f.Kind != api.FAmend && len(got) > 2 {
			t.Fatalf("%v of %v: %v", f, l, got)
		}
		most = max(most, len(got))
		for i, k := range got {
			if k.Week < 0 || k.Week > 52 || i > 0 && (k.Worker < got[i-1].Worker || k.Worker == got[i-1].Worker && k.Week <= got[i-1].Week) {
				t.Fatalf("%v of %v: %v", f, l, got)
			}
		}
	}
	if most != 4 {
		t.Errorf("%d at most", most)
	}
}

// R3: answers share no memory with what is handed in, nor with one another, their spare room included.
func TestMemory(t *testing.T) {
	s := with(900, 3600)
	filler := rest(99, 99)
	for _, c := range slices.Concat(puts(), takes(), turns(), wrongs()) {
		l := append(slices.Clone(c.l), filler, filler, filler, filler)[:len(c.l)]
		was := slices.Clone(l[:cap(l)])
		got, _ := Apply(s, l, c.f)
		again, _ := Apply(s, l, c.f)
		keys, more := Touched(s, l, c.f), Touched(s, l, c.f)
		want, wantKeys := slices.Clone(got), slices.Clone(keys)
		for i := range again[:cap(again)] {
			again[:cap(again)][i].ID = -77
		}
		for i := range more[:cap(more)] {
			more[:cap(more)][i].Week = -77
		}
		if !slices.Equal(l[:cap(l)], was) || !slices.Equal(got, want) || !slices.Equal(keys, wantKeys) {
			t.Fatalf("%s: an answer shares memory", c.name)
		}
		for i := range l[:cap(l)] {
			l[:cap(l)][i].ID = -88
		}
		if !slices.Equal(got, want) || !slices.Equal(keys, wantKeys) {
			t.Fatalf("%s: an answer shares memory with what is handed in", c.name)
		}
	}
}

// R3: the setup stays as it was.
func TestSetupStays(t *testing.T) {
	s := with(900, 3600)
	b, err := setup.Write(s)
	for _, c := range slices.Concat(puts(), takes(), turns(), wrongs()) {
		Apply(s, c.l, c.f)
		Touched(s, c.l, c.f)
	}
	if now, e := setup.Write(s); err != api.OK || e != api.OK || !slices.Equal(now, b) {
		t.Errorf("%v: %d, %d", s, err, e)
	}
}
