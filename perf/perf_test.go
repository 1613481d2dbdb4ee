package perf

import (
	"math"
	"math/big"
	"math/rand"
	"slices"
	"strconv"
	"testing"

	"lumper/api"
	"lumper/goal"
	"lumper/setup"
	"lumper/stream"
)

const (
	// day, week, lastTime and most, the greatest number of a ratio, are as the document says them.
	day      = 86400
	week     = 604800
	lastTime = 31449599
	most     = 1<<31 - 1

	least    = math.MinInt
	greatest = math.MaxInt
)

// frac is n through d, whatever these are.
func frac(n, d int) api.Ratio { return api.Ratio{Num: n, Den: d} }

// The elements of plan, by what a task of them takes: as many seconds as it has units; the least that there is, and
// a little more; the most, and that for each unit too; a third for each unit, and a half.
const (
	plain   = 0
	tiny    = 1
	tinier  = 2
	great   = 3
	greater = 4
	thirds  = 5
)

// plan is a setup of three workers, whose places 0 and 1 are joined, and 2 is not.
func plan() api.Setup {
	zero, one := frac(0, 1), frac(1, 1)
	return api.Setup{
		Places: 3, Ways: []api.Way{{A: 0, B: 1, Meters: 10}}, Pace: frac(1, 2),
		Elements: []api.Element{{Fixed: zero, Unit: one}, {Fixed: frac(1, most), Unit: zero}, {Fixed: frac(1, most-1), Unit: zero},
			{Fixed: frac(most, 1), Unit: zero}, {Fixed: frac(most, 1), Unit: frac(most, 1)}, {Fixed: frac(1, 2), Unit: frac(1, 3)}},
		Classes: []api.Ratio{one, frac(3, 2)}, Gears: []api.Ratio{one, frac(4, 1)},
		Unit: 1, Cap: 36000, Rates: []int{1500, 2000, 0}, Fault: 60, Tiers: []api.Tier{{Least: 10, Bonus: 1}, {Least: 60, Bonus: 2}},
	}
}

// withFault, and unitOf, are plan with another number.
func withFault(n int) api.Setup {
	s := plan()
	s.Fault = n
	return s
}
func unitOf(n int) api.Setup {
	s := plan()
	s.Unit = n
	return s
}

// in, and the others, are events of worker 0.
func in(id, at int) api.Event    { return api.Event{ID: id, At: at, Kind: api.EIn} }
func out(id, at int) api.Event   { return api.Event{ID: id, At: at, Kind: api.EOut} }
func rest(id, at int) api.Event  { return api.Event{ID: id, At: at, Kind: api.EBreak} }
func done(id, at int) api.Event  { return api.Event{ID: id, At: at, Kind: api.EDone} }
func fault(id, at int) api.Event { return api.Event{ID: id, At: at, Kind: api.EFault} }
func code(id, at, n int) api.Event {
	return api.Event{ID: id, At: at, Kind: api.ECode, Code: n}
}

// task is a task of so many seconds, of is one of an element, and one unit, and far is one that can't be done.
func task(id, at, units int) api.Event {
	return api.Event{ID: id, At: at, Kind: api.ETask, Units: units}
}
func of(id, at, element int) api.Event {
	return api.Event{ID: id, At: at, Kind: api.ETask, Element: element, Units: 1}
}
func far(id, at int) api.Event { return api.Event{ID: id, At: at, Kind: api.ETask, To: 2} }

// by is the event, of another worker.
func by(worker int, e api.Event) api.Event {
	e.Worker = worker
	return e
}

// list is a list of events, and many is as many events as are asked for, one like the other, but for their numbers.
func list(l ...api.Event) []api.Event { return l }
func many(n int, e api.Event) []api.Event {
	var l []api.Event
	for range n {
		l = append(l, e)
		e.ID++
	}
	return l
}

// and is a list, with others behind it, in memory of its own.
func and(l []api.Event, more ...api.Event) []api.Event { return slices.Concat(l, more) }

// answer is what Of tells.
type answer struct {
	earned   api.Ratio
	eligible int
	perf     api.Ratio
	e        api.Errno
}

// are is an answer without an error, and wrong is one with an error.
func are(earned api.Ratio, eligible int, perf api.Ratio) answer {
	return answer{earned, eligible, perf, 0}
}
func wrong(eligible int, e api.Errno) answer { return answer{eligible: eligible, e: e} }

// whole is an answer of a whole number of seconds that was earned.
func whole(earned, eligible, n, d int) answer { return are(frac(earned, 1), eligible, frac(n, d)) }

// nothing is what is told where nothing was done.
func nothing() answer { return whole(0, 0, 0, 1) }

// told is what Of tells.
func told(s api.Setup, l []api.Event, worker, n int) answer {
	var a answer
	a.earned, a.eligible, a.perf, a.e = Of(s, l, worker, n)
	return a
}

// mayBe is what chapter 8 says of events, in a setup that may be.
func mayBe(s api.Setup, e api.Event) bool {
	none := e
	none.ID, none.Worker, none.At, none.Kind = 0, 0, 0, 0
	if e.Kind == 3 {
		for _, c := range [][2]int{{e.From, s.Places}, {e.To, s.Places}, {e.Element, len(s.Elements)}, {e.Units, 10001}, {e.Class, len(s.Classes)}, {e.Gear, len(s.Gears)}} {
			if c[0] < 0 || c[0] >= c[1] {
				return false
			}
		}
		none.From, none.To, none.Element, none.Units, none.Class, none.Gear = 0, 0, 0, 0, 0, 0
	}
	if e.Kind == 4 {
		if e.Code < 0 || e.Code > 99 {
			return false
		}
		none.Code = 0
	}
	return none == api.Event{} && e.ID >= 0 && e.ID <= 100000 && e.Worker >= 0 && e.Worker < len(s.Rates) &&
		e.At >= 0 && e.At <= lastTime && e.Kind >= 1 && e.Kind <= 7
}

// isOf tells whether t is a second of week n.
func isOf(t, n int) bool { return n >= 0 && n <= 52 && n*week <= t && t < n*week+week }

// eventOf is the document's 'A part's event': no other one stands ahead of it, nor as far ahead, and earlier in l.
func eventOf(s api.Setup, l []api.Event, worker, id int) api.Event {
	best := -1
	for i, e := range l {
		if mayBe(s, e) && e.Worker == worker && e.Kind == 3 && e.ID == id && (best < 0 || e.At < l[best].At) {
			best = i
		}
	}
	return l[best]
}

// isRatio tells whether a number is that of a ratio, and exact is a ratio's number.
func isRatio(x *big.Rat) bool {
	bound := big.NewInt(most)
	return x.Num().CmpAbs(bound) <= 0 && x.Denom().Cmp(bound) <= 0
}
func exact(r api.Ratio) *big.Rat { return big.NewRat(int64(r.Num), int64(r.Den)) }

// ratioOf is the ratio of a number of which there is one.
func ratioOf(x *big.Rat) api.Ratio { return frac(int(x.Num().Int64()), int(x.Denom().Int64())) }

// said is what the document says of Of, of a setup that may be.
func said(s api.Setup, l []api.Event, worker, n int) answer {
	segs, _ := stream.Of(s, l, worker)
	eligible, lost := 0, int64(0)
	var goals []*big.Rat
	failed := api.Errno(0)
	for _, p := range segs {
		if p.Kind != 1 || !isOf(p.From, n) {
			continue
		}
		eligible += p.To - p.From
		g, e := goal.Of(s, eventOf(s, l, worker, p.ID))
		if failed == 0 {
			failed = e
		}
		if e == 0 {
			goals = append(goals, exact(g))
		}
	}
	if failed != 0 {
		return wrong(eligible, failed)
	}
	for _, e := range l {
		if mayBe(s, e) && e.Worker == worker && e.Kind == 7 && isOf(e.At, n) {
			lost += int64(s.Fault)
		}
	}
	all := new(big.Rat)
	for _, g := range goals {
		if all.Add(all, g); !isRatio(all) {
			return wrong(eligible, 10)
		}
	}
	less := big.NewRat(lost, 1)
	earned := new(big.Rat).Sub(all, less)
	if !isRatio(less) || !isRatio(earned) {
		return wrong(eligible, 10)
	}
	if earned.Sign() < 0 {
		earned.SetInt64(0)
	}
	perf := new(big.Rat)
	if eligible > 0 {
		perf.Quo(earned, big.NewRat(int64(eligible), 1))
	}
	if !isRatio(perf) {
		return wrong(eligible, 10)
	}
	return are(ratioOf(earned), eligible, ratioOf(perf))
}

// held holds Of against the document's words; the list stays as it was, its spare room included.
func held(t *testing.T, name string, s api.Setup, l []api.Event, worker, n int) answer {
	t.Helper()
	was := slices.Clone(l[:cap(l)])
	got, want := told(s, l, worker, n), said(s, l, worker, n)
	if got != want {
		t.Fatalf("%s: Of(%+v, %v, %d, %d) = %v, want %v", name, s, l, worker, n, got, want)
	}
	if !slices.Equal(l[:cap(l)], was) {
		t.Fatalf("%s: %v was changed: %v", name, was, l[:cap(l)])
	}
	return got
}

// is holds Of against an answer, and the document's words too.
func is(t *testing.T, name string, s api.Setup, l []api.Event, worker, n int, want answer) {
	t.Helper()
	if got := told(s, l, worker, n); got != want {
		t.Errorf("%s: Of(%v, %d, %d) = %v, want %v", name, l, worker, n, got, want)
		return
	}
	held(t, name, s, l, worker, n)
}

// known is a list of events, and what worker 0 did in a week, by plan.
type known struct {
	name string
	l    []api.Event
	week int
	want answer
}

// isTold tells whether the order in which events are told matters: whether two of them are of one number and time.
func isTold(l []api.Event) bool {
	for i, a := range l {
		if slices.ContainsFunc(l[:i], func(b api.Event) bool { return a.ID == b.ID && a.At == b.At }) {
			return true
		}
	}
	return false
}

// tells holds Of against what is known, and that it is the same of events told from the last one on.
func tells(t *testing.T, s api.Setup, l []known) {
	t.Helper()
	for _, c := range l {
		is(t, c.name, s, c.l, 0, c.week, c.want)
		if len(c.l) > 1000 || isTold(c.l) {
			continue
		}
		backwards := slices.Clone(c.l)
		slices.Reverse(backwards)
		is(t, c.name+", backwards", s, backwards, 0, c.week, c.want)
	}
}

// example are the events of the chapter's example, but for the fault.
func example() []api.Event {
	return list(in(1, 0), task(2, 100, 300), task(3, 400, 120), rest(4, 700), out(5, 900))
}

// P18.1, P18.2: the chapter's example.
func TestExample(t *testing.T) {
	is(t, "without a fault", plan(), example(), 0, 0, whole(420, 600, 7, 10))
	is(t, "example", plan(), and(example(), fault(6, 500)), 0, 0, whole(360, 600, 3, 5))
	_, _, p, _ := Of(plan(), and(example(), fault(6, 500)), 0, 0)
	if n := Tier(plan(), p); n != 1 {
		t.Errorf("%d", n)
	}
}

// P18.1: ordinary weeks, of no task, of one, and of several.
func TestTasks(t *testing.T) {
	tells(t, plan(), []known{
		{"no events", nil, 0, nothing()},
		{"an empty list", []api.Event{}, 0, nothing()},
		{"no task", list(in(1, 100), out(2, 900)), 0, nothing()},
		{"a task outside", list(task(1, 100, 50)), 0, nothing()},
		{"a task ahead, and one behind", list(task(1, 50, 50), in(2, 100), out(3, 900), task(4, 950, 50)), 0, nothing()},
		{"one task", list(in(1, 0), task(2, 100, 50), out(3, 200)), 0, whole(50, 100, 1, 2)},
		{"one task of one second", list(in(1, 0), task(2, 199, 50), out(3, 200)), 0, whole(50, 1, 50, 1)},
		{"one task, up to the cap", list(in(1, 0), task(2, 100, 359)), 0, whole(359, 35900, 1, 100)},
		{"a task of nothing", list(in(1, 0), task(2, 100, 0), out(3, 200)), 0, whole(0, 100, 0, 1)},
		{"just as much as was to be done", list(in(1, 0), task(2, 100, 100), out(3, 200)), 0, whole(100, 100, 1, 1)},
		{"more than was to be done", list(in(1, 0), task(2, 100, 500), out(3, 200)), 0, whole(500, 100, 5, 1)},
		{"two tasks", list(in(1, 0), task(2, 100, 50), task(3, 200, 25), out(4, 300)), 0, whole(75, 200, 3, 8)},
		{"three tasks, parted by others", list(in(1, 0), task(2, 100, 50), rest(3, 200), task(4, 300, 25), code(5, 310, 7), task(6, 400, 5), done(7, 490), out(8, 900)), 0, whole(80, 200, 2, 5)},
		{"of several sessions", list(in(1, 0), task(2, 100, 50), out(3, 200), in(4, 5000), task(5, 5000, 7), in(6, 5010), task(7, 5020, 3), out(8, 5030)), 0, whole(60, 120, 1, 2)},
		{"one kind of each", list(in(1, 0), code(2, 10, 3), rest(3, 20), done(4, 30), task(5, 40, 2), out(6, 50)), 0, whole(2, 10, 1, 5)},
		{"indirect work, breaks and gaps alone", list(in(1, 0), code(2, 10, 3), rest(3, 20), done(4, 30), out(6, 50)), 0, nothing()},
		{"a task without seconds", list(in(1, 0), task(2, 100, 9000), task(3, 100, 7), out(4, 200)), 0, whole(7, 100, 7, 100)},
		{"a task without seconds, at the end", list(in(1, 0), task(2, 100, 7), task(3, 200, 9000), out(4, 200)), 0, whole(7, 100, 7, 100)},
		{"a task without seconds alone", list(in(1, 0), task(2, 200, 9000), out(3, 200)), 0, nothing()},
		{"a task behind the cap", list(in(1, 0), task(2, 100, 359), task(3, 36000, 9000), task(4, 36001, 9000)), 0, whole(359, 35900, 1, 100)},
		{"thirds", list(in(1, 0), of(2, 100, thirds), out(3, 200)), 0, are(frac(5, 6), 100, frac(1, 120))},
		{"thirds, and a whole", list(in(1, 0), of(2, 100, thirds), task(3, 110, 10), out(4, 113)), 0, are(frac(65, 6), 13, frac(5, 6))},
		{"thirds that make a whole", list(in(1, 0), of(2, 10, thirds), of(3, 20, thirds), of(4, 30, thirds), of(5, 40, thirds), of(6, 50, thirds), of(7, 60, thirds), out(8, 70)), 0, are(frac(5, 1), 60, frac(1, 12))},
		{"a way, there and back, by class and gear", list(in(1, 0), api.Event{ID: 2, At: 100, Kind: 3, To: 1, Element: thirds, Units: 3, Class: 1, Gear: 1},
			api.Event{ID: 3, At: 200, Kind: 3, From: 1, Units: 8}, out(4, 300)), 0, are(frac(141, 4), 200, frac(141, 800))},
	})
}

// P18.1: with allowance, more is earned.
func TestAllow(t *testing.T) {
	s := plan()
	s.Allow = 15
	is(t, "allowance", s, and(example(), fault(6, 500)), 0, 0, whole(423, 600, 141, 200))
}

// P18.1: a task is of the week that its part begins in.
func TestWeeks(t *testing.T) {
	across := list(in(1, week-200), task(2, week-100, 60), out(3, week+20))
	both := list(in(1, week-200), task(2, week-100, 60), task(3, week+10, 5), out(4, week+20))
	within := list(in(1, week-200), rest(2, week-100), task(3, week-1, 60), task(4, week, 30), out(5, week+10))
	tells(t, plan(), []known{
		{"its end is in the next week", across, 0, whole(60, 120, 1, 2)},
		{"it began in the week before", across, 1, nothing()},
		{"one that goes on, and one", both, 0, whole(60, 110, 6, 11)},
		{"one that began in the week before, and one", both, 1, whole(5, 10, 1, 2)},
		{"begun with the week's last second", within, 0, whole(60, 1, 60, 1)},
		{"begun with the week's first second", within, 1, whole(30, 10, 3, 1)},
		{"ends with the week", list(in(1, week-200), task(2, week-100, 60), out(3, week)), 0, whole(60, 100, 3, 5)},
		{"ends with the week, of the next one", list(in(1, week-200), task(2, week-100, 60), out(3, week)), 1, nothing()},
		{"begins with the first second", list(in(1, 0), task(2, 0, 60), out(3, 100)), 0, whole(60, 100, 3, 5)},
		{"of other weeks alone", list(in(1, 0), task(2, 0, 60), out(3, 100), in(4, 2*week), task(5, 2*week, 60), out(6, 2*week+100)), 1, nothing()},
		{"of this week, between others", list(in(1, 100), task(2, 100, 60), out(3, 200), in(4, week), task(5, week, 30), out(6, week+90), in(7, 2*week), task(8, 2*week, 60), out(9, 2*week+100)), 1, whole(30, 90, 1, 3)},
		{"up to the end of the last session", list(in(1, lastTime-9), task(2, lastTime, 60)), 51, whole(60, 35991, 20, 11997)},
		{"nothing in the last week", list(in(1, lastTime-9), task(2, lastTime, 60)), 52, nothing()},
	})
	tells(t, unitOf(900), []known{
		{"told as begun in the next week, of this one", list(in(1, week-100), task(2, week-50, 60), fault(3, week-50), fault(4, week), out(5, week+900)), 0, nothing()},
		{"told as begun in the next week", list(in(1, week-100), task(2, week-50, 90), fault(3, week-50), fault(4, week), out(5, week+900)), 1, whole(30, 900, 1, 30)},
		{"told as gone ahead", list(in(1, 0), task(2, 850, 90), task(3, 910, 90), out(4, 1300)), 0, whole(90, 50, 9, 5)},
	})
	is(t, "told as begun in the last week", unitOf(60), list(in(1, lastTime), task(2, lastTime, 60)), 0, 52, whole(60, 36000, 1, 600))
	for _, n := range []int{51, 53, 54, 52 + 1<<32, greatest, least, -1, 0} {
		is(t, "told as begun in the last week, of week "+strconv.Itoa(n), unitOf(60), list(in(1, lastTime), task(2, lastTime, 60)), 0, n, nothing())
	}
}

// busy are events of all workers, in each week that has some: of a session across each week's end, with faults on either side.
func busy() []api.Event {
	var l []api.Event
	for n := range 52 {
		for worker := range 3 {
			id := 100*n + 10*worker
			l = append(l, by(worker, fault(id+5, n*week)), by(worker, in(id, n*week+week-700)), by(worker, task(id+1, n*week+week-600, 10*n+worker+50)),
				by(worker, task(id+2, n*week+week-1, 7)), by(worker, fault(id+6, n*week+week-1)))
		}
	}
	return l
}

// P18.1: each week there is, and weeks that there are not, in which nothing was done.
func TestAnyWeek(t *testing.T) {
	l := busy()
	for worker := range 3 {
		for n := range 52 {
			a := held(t, "each week", plan(), l, worker, n)
			if a.eligible != 599+36000-699 || a.e != 0 || a.earned != frac(max(0, 10*n+worker+50+7-120), 1) {
				t.Errorf("worker %d, week %d: %v", worker, n, a)
			}
		}
		for _, n := range []int{52, -1, 53, 54, -52, -53, 1000, 1 << 31, 1 << 32, -1 << 32, 1<<32 + 1, 1 << 62, greatest, greatest - 1, least, least + 1} {
			is(t, "week "+strconv.Itoa(n), plan(), l, worker, n, nothing())
		}
	}
}

// P18.1: weeks that there are not have no errors either, though all that stands at the edges of time has.
func TestNoWeeks(t *testing.T) {
	s := withFault(day)
	l := and(list(in(1, 0), far(2, 0), of(3, 10, greater), in(4, lastTime), far(5, lastTime)), many(24856, fault(10, 0))...)
	l = and(l, many(24856, fault(50000, lastTime))...)
	is(t, "the first one", s, l, 0, 0, wrong(36000, 100))
	is(t, "the last one of an event", s, l, 0, 51, wrong(36000, 100))
	for _, n := range []int{-1, 52, 53, least, greatest} {
		is(t, strconv.Itoa(n), s, l, 0, n, nothing())
	}
}

// P18.1: workers that there are, and that there are not, of whom nothing was done, though events are told of them.
func TestWorkers(t *testing.T) {
	var l []api.Event
	for i, worker := range []int{0, 2, 1, -1, 3, 4, least, greatest, 1 << 32} {
		l = append(l, by(worker, in(10*i+1, 0)), by(worker, task(10*i+2, 100, 300+i)), by(worker, fault(10*i+3, 100)), by(worker, out(10*i+4, 200)))
	}
	is(t, "the first worker", plan(), l, 0, 0, whole(240, 100, 12, 5))
	is(t, "the last worker", plan(), l, 2, 0, whole(241, 100, 241, 100))
	is(t, "the one between", plan(), l, 1, 0, whole(242, 100, 121, 50))
	for _, worker := range []int{-1, 3, 4, 15, 16, least, greatest, 1 << 32, 1<<32 + 1, -1 << 32} {
		is(t, "worker "+strconv.Itoa(worker), plan(), l, worker, 0, nothing())
	}
	s := plan()
	s.Rates = s.Rates[:1]
	is(t, "the only worker", s, l, 0, 0, whole(240, 100, 12, 5))
	is(t, "behind the only worker", s, l, 1, 0, nothing())
	s.Rates = make([]int, 16)
	is(t, "the third of sixteen", s, l, 3, 0, whole(244, 100, 61, 25))
	is(t, "the last of sixteen", s, l, 15, 0, nothing())
}

// P18.1: a part's event is the first task of its number, in order, that is the worker's, and may be.
func TestOneNumber(t *testing.T) {
	tells(t, plan(), []known{
		{"twice", list(in(1, 0), task(2, 100, 50), task(2, 200, 70), out(3, 300)), 0, whole(100, 200, 1, 2)},
		{"twice, the other way round", list(in(1, 0), task(2, 100, 70), task(2, 200, 50), out(3, 300)), 0, whole(140, 200, 7, 10)},
		{"thrice, the first one told last", list(task(2, 300, 1), task(2, 200, 2), in(1, 0), out(3, 400), task(2, 100, 30)), 0, whole(90, 300, 3, 10)},
		{"the first one outside", list(task(2, 10, 50), in(1, 100), task(2, 200, 70), out(3, 300)), 0, whole(50, 100, 1, 2)},
		{"the first one outside, the other one told first", list(in(1, 100), task(2, 200, 70), out(3, 300), task(2, 10, 50)), 0, whole(50, 100, 1, 2)},
		{"the second one outside", list(in(1, 100), task(2, 200, 70), out(3, 300), task(2, 310, 50)), 0, whole(70, 100, 7, 10)},
		{"the first one without seconds", list(in(1, 0), task(2, 100, 50), task(3, 100, 5), task(2, 200, 70), out(4, 300)), 0, whole(55, 200, 11, 40)},
		{"the first one in the week before", list(in(1, 100), task(2, 200, 50), out(3, 300), in(4, week), task(2, week+100, 70), out(5, week+200)), 1, whole(50, 100, 1, 2)},
		{"the second one in the next week", list(in(1, 100), task(2, 200, 50), out(3, 300), in(4, week), task(2, week+100, 70), out(5, week+200)), 0, whole(50, 100, 1, 2)},
		{"the first one at the same time", list(in(1, 0), task(2, 100, 50), task(2, 100, 70), out(3, 200)), 0, whole(50, 100, 1, 2)},
		{"the first one at the same time, the other way round", list(in(1, 0), task(2, 100, 70), task(2, 100, 50), out(3, 200)), 0, whole(70, 100, 7, 10)},
		{"another worker's, ahead", list(by(1, task(2, 50, 900)), in(1, 0), task(2, 100, 50), out(3, 200)), 0, whole(50, 100, 1, 2)},
		{"another worker's, in a session", list(by(1, in(1, 0)), by(1, task(2, 50, 900)), in(1, 0), task(2, 100, 50), out(3, 200)), 0, whole(50, 100, 1, 2)},
		{"another worker's, of the same time", list(by(1, task(2, 100, 900)), in(1, 0), task(2, 100, 50), out(3, 200)), 0, whole(50, 100, 1, 2)},
		{"no task, ahead", list(code(2, 10, 5), rest(2, 20), done(2, 30), out(2, 40), in(2, 50), fault(2, 60), task(2, 100, 110), out(2, 200)), 0, whole(50, 100, 1, 2)},
		{"all of one number", list(in(2, 50), task(2, 100, 50), rest(2, 200), task(2, 300, 70), out(2, 400)), 0, whole(100, 200, 1, 2)},
		{"number 0", list(in(0, 50), task(0, 100, 50), task(0, 200, 70), out(0, 300)), 0, whole(100, 200, 1, 2)},
		{"the greatest number", list(in(100000, 50), task(100000, 100, 50), task(100000, 200, 70), out(100000, 300)), 0, whole(100, 200, 1, 2)},
		{"the first one can't be done", list(far(2, 10), in(1, 50), task(2, 100, 50), out(3, 200)), 0, wrong(100, 100)},
		{"the second one could not be done", list(in(1, 50), task(2, 100, 50), far(2, 150), out(3, 200)), 0, whole(100, 100, 1, 1)},
		{"the first one has too great a goal", list(of(2, 10, greater), in(1, 50), task(2, 100, 50), out(3, 200)), 0, wrong(100, 10)},
		{"the second one would have too great a goal", list(in(1, 50), task(2, 100, 50), of(2, 150, greater), out(3, 200)), 0, whole(100, 100, 1, 1)},
		{"a fault of a task's number", list(in(1, 50), fault(2, 60), task(2, 100, 110), out(3, 200)), 0, whole(50, 100, 1, 2)},
	})
	for _, e := range []api.Event{task(2, 50, 10001), task(2, 50, -1), task(2, -1, 900), {ID: 2, At: 50, Kind: 3, Code: 1, Units: 900}, {ID: 2, At: 50, Kind: 3, Element: 6}, {ID: 2, At: 50, Kind: 3, To: 3},
		{ID: 2, At: 50, Kind: 3, From: -1}, {ID: 2, At: 50, Kind: 3, Class: 2}, {ID: 2, At: 50, Kind: 3, Gear: 2}, {ID: 2, At: 50}, {ID: 2, At: 50, Kind: 8}, {ID: 2, At: 50, Worker: -1, Kind: 3}, {ID: 2, At: 50, Worker: 3, Kind: 3}} {
		is(t, "one that may not be, ahead", plan(), list(e, in(1, 0), task(2, 100, 50), out(3, 200)), 0, 0, whole(50, 100, 1, 2))
	}
}

// P18.1: events in any order make the same answer, as long as no two are of one number and time.
func TestUnsorted(t *testing.T) {
	r := rand.New(rand.NewSource(181))
	l := and(busy(), fault(90001, 10), task(90002, 20, 40))
	for range 60 {
		mixed := slices.Clone(l)
		r.Shuffle(len(mixed), func(i, j int) { mixed[i], mixed[j] = mixed[j], mixed[i] })
		worker, n := r.Intn(3), r.Intn(52)
		want := told(plan(), l, worker, n)
		if got := told(plan(), mixed, worker, n); got != want {
			t.Fatalf("worker %d, week %d: %v, sorted: %v", worker, n, got, want)
		}
	}
}

// P18.1: faults of the week, and those that are not.
func TestFaults(t *testing.T) {
	tells(t, plan(), []known{
		{"one", and(example(), fault(9, 5)), 0, whole(360, 600, 3, 5)},
		{"three", and(example(), fault(9, 5), fault(8, 500), fault(10, 60000)), 0, whole(240, 600, 2, 5)},
		{"two of one number", and(example(), fault(9, 5), fault(9, 500)), 0, whole(300, 600, 1, 2)},
		{"two of one number and time", and(example(), fault(9, 5), fault(9, 5)), 0, whole(300, 600, 1, 2)},
		{"of the number of a task", and(example(), fault(2, 5)), 0, whole(360, 600, 3, 5)},
		{"outside of any session", and(example(), fault(9, 5000)), 0, whole(360, 600, 3, 5)},
		{"with the week's first second, and its last one", and(example(), fault(9, 0), fault(10, week-1)), 0, whole(300, 600, 1, 2)},
		{"of the next week", and(example(), fault(9, week), fault(10, 2*week-1), fault(11, lastTime)), 0, whole(420, 600, 7, 10)},
		{"of another worker", and(example(), by(1, fault(9, 5)), by(2, fault(10, 5))), 0, whole(420, 600, 7, 10)},
		{"of workers that there are not", and(example(), by(3, fault(9, 5)), by(-1, fault(10, 5))), 0, whole(420, 600, 7, 10)},
		{"six, of nothing else", many(6, fault(1, 9)), 0, nothing()},
		{"of no session, ahead of eligible seconds", and(many(6, fault(1, 9)), in(7, 50), task(8, 60, 500), out(9, 100)), 0, whole(140, 40, 7, 2)},
	})
	for _, e := range []api.Event{fault(-1, 5), fault(100001, 5), fault(9, -1), fault(9, lastTime+1), {ID: 9, At: 5, Kind: 7, Units: 1}, {ID: 9, At: 5, Kind: 7, Code: 1}, {ID: 9, At: 5, Kind: 7, From: -1},
		{ID: 9, At: 5, Kind: 7, To: 1}, {ID: 9, At: 5, Kind: 7, Element: 1}, {ID: 9, At: 5, Kind: 7, Class: 1}, {ID: 9, At: 5, Kind: 7, Gear: -1}, {ID: 9, At: 5, Kind: 8}, {ID: 9, At: 5, Kind: 7 + 1<<32}, {ID: 9, At: 5}} {
		is(t, "one that may not be", plan(), and(example(), e), 0, 0, whole(420, 600, 7, 10))
	}
	before := list(fault(1, week-1), fault(2, 0), fault(3, 2*week), fault(4, week), fault(5, 2*week-1), in(6, week), task(7, week, 300), out(8, week+600))
	is(t, "of the week before, and of the next one", plan(), before, 0, 1, whole(180, 600, 3, 10))
}

// P18.1: each size of a fault, from the least to the greatest one, as often as there are faults.
func TestFaultSizes(t *testing.T) {
	for _, size := range []int{0, 1, 2, 59, 3600, day - 1, day} {
		for _, n := range []int{0, 1, 2, 3, 50} {
			l := append(many(n, fault(10, 7)), in(1, 0), task(2, 100, 10000), out(3, 10100))
			earned := big.NewRat(int64(max(0, 10000-n*size)), 10000)
			is(t, "fault "+strconv.Itoa(size), withFault(size), l, 0, 0, are(frac(max(0, 10000-n*size), 1), 10000, ratioOf(earned)))
		}
	}
}

// P18.1: faults that take just as much as was earned, one second less, and more.
func TestFaultsTakeAll(t *testing.T) {
	for n := 1; n < 5; n++ {
		faults := many(n, fault(10, 7))
		for _, more := range []int{-60, -59, -2, -1, 0} {
			is(t, "as much, or more", plan(), append(list(in(1, 0), task(2, 100, 60*n+more), out(3, 200)), faults...), 0, 0, whole(0, 100, 0, 1))
		}
		is(t, "one less", plan(), append(list(in(1, 0), task(2, 100, 60*n+1), out(3, 200)), faults...), 0, 0, whole(1, 100, 1, 100))
		is(t, "two less", plan(), append(list(in(1, 0), task(2, 100, 60*n+2), out(3, 200)), faults...), 0, 0, whole(2, 100, 1, 50))
	}
	thirty := api.Event{ID: 2, At: 100, Kind: 3, Element: thirds, Units: 179}
	is(t, "a sixth more", plan(), list(in(1, 0), thirty, out(3, 200), fault(9, 0)), 0, 0, are(frac(1, 6), 100, frac(1, 600)))
	thirty.Units = 178
	is(t, "a sixth less", plan(), list(in(1, 0), thirty, out(3, 200), fault(9, 0)), 0, 0, whole(0, 100, 0, 1))
}

// P18.1: the errors of goals: that of the first one, in order, ahead of all others.
func TestGoalErrors(t *testing.T) {
	s := withFault(day)
	lots := many(24856, fault(100, 7))
	tells(t, s, []known{
		{"the only one can't be done", list(in(1, 0), far(2, 100), out(3, 200)), 0, wrong(100, 100)},
		{"the first one", list(in(1, 0), far(2, 100), task(3, 150, 5), out(4, 200)), 0, wrong(100, 100)},
		{"a later one", list(in(1, 0), task(2, 100, 5), task(3, 150, 5), far(4, 180), out(5, 300)), 0, wrong(200, 100)},
		{"the only one is too great", list(in(1, 0), of(2, 100, greater), out(3, 200)), 0, wrong(100, 10)},
		{"the first one is too great", list(in(1, 0), of(2, 100, greater), task(3, 150, 5), out(4, 200)), 0, wrong(100, 10)},
		{"a later one is too great", list(in(1, 0), task(2, 100, 5), of(3, 150, greater), out(4, 200)), 0, wrong(100, 10)},
		{"the first one can't be done, the second one is too great", list(in(1, 0), far(2, 100), of(3, 150, greater), out(4, 200)), 0, wrong(100, 100)},
		{"the first one is too great, the second one can't be done", list(in(1, 0), of(2, 100, greater), far(3, 150), out(4, 200)), 0, wrong(100, 10)},
		{"told the other way round", list(out(4, 200), far(3, 150), of(2, 100, greater), in(1, 0)), 0, wrong(100, 10)},
		{"one that can't be done in the week before", list(in(1, 0), far(2, 100), out(3, 200), in(4, week), task(5, week, 5), out(6, week+10)), 1, whole(5, 10, 1, 2)},
		{"one that can't be done in the next week", list(in(1, 0), task(2, 100, 50), out(3, 200), in(4, week), far(5, week), out(6, week+10)), 0, whole(50, 100, 1, 2)},
		{"one that can't be done without seconds", list(in(1, 0), far(2, 100), task(3, 100, 50), of(4, 200, greater), out(5, 200)), 0, whole(50, 100, 1, 2)},
		{"those that can't be done outside", list(far(9, 40), in(1, 50), task(3, 100, 50), out(5, 200), of(6, 200, greater)), 0, whole(50, 100, 1, 2)},
		{"another worker's can't be done", list(in(1, 0), task(3, 100, 50), out(5, 200), by(1, in(6, 0)), by(1, far(7, 100)), by(1, out(8, 200))), 0, whole(50, 100, 1, 2)},
		{"that, and the sum is too great", list(in(1, 0), of(2, 100, great), of(3, 150, great), far(4, 180), out(5, 300)), 0, wrong(200, 100)},
		{"that, and the faults are too great", append(list(in(1, 0), far(4, 180), out(5, 300)), lots...), 0, wrong(120, 100)},
		{"that, and less is too great", list(in(1, 0), of(2, 100, tiny), far(4, 180), out(5, 300), fault(6, 5)), 0, wrong(200, 100)},
		{"that, and the performance would be too great", list(in(1, 0), of(2, 100, tiny), far(4, 180), out(5, 300)), 0, wrong(200, 100)},
		{"that, and more faults than was earned", list(in(1, 0), task(2, 100, 5), far(4, 180), out(5, 300), fault(6, 5)), 0, wrong(200, 100)},
	})
}

// P18.1: the sum's error: of goals one by one, in the order of their parts.
func TestSumErrors(t *testing.T) {
	lots := many(24856, fault(100, 7))
	tells(t, plan(), []known{
		{"the greatest one alone", list(in(1, 0), of(2, 100, great), out(3, 101)), 0, are(frac(most, 1), 1, frac(most, 1))},
		{"the greatest one, and nothing", list(in(1, 0), of(2, 100, great), task(3, 101, 0), out(4, 102)), 0, are(frac(most, 1), 2, frac(most, 2))},
		{"the greatest one, and a second", list(in(1, 0), of(2, 100, great), task(3, 101, 1), out(4, 102)), 0, wrong(2, 10)},
		{"a second, and the greatest one", list(in(1, 0), task(2, 100, 1), of(3, 101, great), out(4, 102)), 0, wrong(2, 10)},
		{"the least one alone", list(in(1, 0), of(2, 100, tiny), out(3, 101)), 0, are(frac(1, most), 1, frac(1, most))},
		{"the least one, and a little more", list(in(1, 0), of(2, 100, tiny), of(3, 101, tinier), out(4, 102)), 0, wrong(2, 10)},
		{"both in weeks of their own", list(in(1, week-1), of(2, week-1, tiny), of(3, week, tinier), out(4, week+1)), 0, are(frac(1, most), 1, frac(1, most))},
		{"both in weeks of their own, the other one", list(in(1, week-1), of(2, week-1, tiny), of(3, week, tinier), out(4, week+1)), 1, are(frac(1, most-1), 1, frac(1, most-1))},
		{"too great, with faults that would take it all", list(in(1, 0), of(2, 100, great), task(3, 101, 1), out(4, 102), fault(5, 0)), 0, wrong(2, 10)},
	})
	s := withFault(day)
	is(t, "too great, and faults that are too great", s, append(list(in(1, 0), of(2, 100, great), task(3, 101, 1), out(4, 102)), lots...), 0, 0, wrong(2, 10))
	s = plan()
	s.Elements = []api.Element{{Fixed: frac(1, 46349), Unit: frac(0, 1)}, {Fixed: frac(1, 46351), Unit: frac(0, 1)}, {Fixed: frac(46348, 46349), Unit: frac(0, 1)}}
	is(t, "in an order that makes a sum", s, list(in(1, 0), of(2, 1, 0), of(3, 2, 2), of(4, 3, 1), out(5, 4)), 0, 0, are(frac(46352, 46351), 3, frac(46352, 139053)))
	is(t, "in another one", s, list(in(1, 0), of(2, 1, 2), of(3, 2, 0), of(4, 3, 1), out(5, 4)), 0, 0, are(frac(46352, 46351), 3, frac(46352, 139053)))
	is(t, "in one that makes none", s, list(in(1, 0), of(2, 1, 0), of(3, 2, 1), of(4, 3, 2), out(5, 4)), 0, 0, wrong(3, 10))
	is(t, "in one that makes none, though told as one that does", s, list(of(4, 3, 2), in(1, 0), of(2, 1, 0), of(3, 2, 1), out(5, 4)), 0, 0, wrong(3, 10))
	is(t, "by time, and not by number", s, list(in(1, 0), of(9, 1, 0), of(3, 2, 2), of(6, 3, 1), out(5, 4)), 0, 0, are(frac(46352, 46351), 3, frac(46352, 139053)))
}

// P18.1: the error of making what faults take, whatever was earned, and whether there are eligible seconds or not.
func TestFaultErrors(t *testing.T) {
	s := withFault(day)
	work := list(in(1, 0), task(2, 100, 50), out(3, 200))
	is(t, "just not too great", s, append(many(24855, fault(10, 7)), work...), 0, 0, whole(0, 100, 0, 1))
	is(t, "too great", s, append(many(24856, fault(10, 7)), work...), 0, 0, wrong(100, 10))
	is(t, "too great, others in between", s, append(and(many(24855, fault(10, 7)), work...), fault(50000, 700)), 0, 0, wrong(100, 10))
	is(t, "too great, but for one of another week", s, append(and(many(24855, fault(10, 7)), work...), fault(50000, week)), 0, 0, whole(0, 100, 0, 1))
	is(t, "just not too great, of nothing eligible", s, many(24855, fault(10, 7)), 0, 0, nothing())
	is(t, "too great, of nothing eligible", s, many(24856, fault(10, 7)), 0, 0, wrong(0, 10))
	is(t, "far too great", s, many(60000, fault(10, 7)), 0, 0, wrong(0, 10))
	is(t, "as much as there may be earned", s, append(many(24856, fault(10, 7)), in(1, 0), of(2, 1, great), out(3, 2)), 0, 0, wrong(1, 10))
	is(t, "nearly as much", s, append(many(24855, fault(10, 7)), in(1, 0), of(2, 1, great), out(3, 2)), 0, 0, whole(most-24855*day, 1, most-24855*day, 1))
	is(t, "of 0 never", withFault(0), append(many(50000, fault(10, 7)), work...), 0, 0, whole(50, 100, 1, 2))
	is(t, "of 1 not yet", withFault(1), append(many(50000, fault(10, 7)), work...), 0, 0, whole(0, 100, 0, 1))
}

// P18.1: the error of taking faults away, also where less than nothing would be left.
func TestMinusErrors(t *testing.T) {
	one := func(element int) []api.Event { return list(in(1, 0), of(2, 100, element), out(3, 101)) }
	is(t, "no fault", withFault(2), one(tiny), 0, 0, are(frac(1, most), 1, frac(1, most)))
	is(t, "a fault of 0", withFault(0), and(one(tiny), fault(9, 0)), 0, 0, are(frac(1, most), 1, frac(1, most)))
	is(t, "a fault of 1", withFault(1), and(one(tiny), fault(9, 0)), 0, 0, whole(0, 1, 0, 1))
	is(t, "a fault of 2", withFault(2), and(one(tiny), fault(9, 0)), 0, 0, wrong(1, 10))
	is(t, "two faults of 1", withFault(1), and(one(tiny), fault(9, 0), fault(10, 0)), 0, 0, wrong(1, 10))
	is(t, "the least but one, two faults of 1", withFault(1), and(one(tinier), fault(9, 0), fault(10, 0)), 0, 0, wrong(1, 10))
	is(t, "a fault of a day", withFault(day), and(one(tiny), fault(9, 0)), 0, 0, wrong(1, 10))
	s := withFault(60)
	s.Elements[0].Fixed = frac(1, 35791394)
	is(t, "just not too great", s, list(in(1, 0), task(2, 100, 0), out(3, 101), fault(9, 0)), 0, 0, whole(0, 1, 0, 1))
	s.Elements[0].Fixed = frac(1, 35791397)
	is(t, "too great", s, list(in(1, 0), task(2, 100, 0), out(3, 101), fault(9, 0)), 0, 0, wrong(1, 10))
	is(t, "too great, and no performance either", withFault(2), list(in(1, 0), of(2, 100, tiny), out(3, 200), fault(9, 0)), 0, 0, wrong(100, 10))
}

// P18.1: the error of the performance: what is earned is not told either.
func TestDivErrors(t *testing.T) {
	lasting := func(element, seconds int) []api.Event {
		return list(in(1, 0), of(2, 100, element), out(3, 100+seconds))
	}
	is(t, "one second", plan(), lasting(tiny, 1), 0, 0, are(frac(1, most), 1, frac(1, most)))
	is(t, "two seconds", plan(), lasting(tiny, 2), 0, 0, wrong(2, 10))
	is(t, "two seconds, all taken by a fault", withFault(1), and(lasting(tiny, 2), fault(9, 0)), 0, 0, whole(0, 2, 0, 1))
	is(t, "a little more, one second", plan(), lasting(tinier, 1), 0, 0, are(frac(1, most-1), 1, frac(1, most-1)))
	is(t, "a little more, two seconds", plan(), lasting(tinier, 2), 0, 0, wrong(2, 10))
	is(t, "the greatest one, in many seconds", plan(), lasting(great, 30000), 0, 0, are(frac(most, 1), 30000, frac(most, 30000)))
	s := plan()
	s.Elements[0].Fixed = frac(3, 1<<30)
	is(t, "just not too great", s, list(in(1, 0), task(2, 100, 0), out(3, 103)), 0, 0, are(frac(3, 1<<30), 3, frac(1, 1<<30)))
	is(t, "too great", s, list(in(1, 0), task(2, 100, 0), out(3, 102)), 0, 0, wrong(2, 10))
}

// P18.1: all of a week at work, from its first second on, and a session behind it: no number of eligible seconds is too great.
func TestMostEligible(t *testing.T) {
	s := plan()
	s.Cap = 57600
	var l []api.Event
	for at := 0; at < week; at += 43200 {
		l = append(l, in(at/100, at), task(at/100+1, at, 3600))
	}
	l = append(l, in(90000, week-1), task(90001, week-1, 3600))
	is(t, "a week, and a session", s, l, 0, 0, are(frac(15*3600, 1), week-1+57600, ratioOf(big.NewRat(54000, week-1+57600))))
	is(t, "the week behind", s, l, 0, 1, nothing())
}

// spoils are what makes a setup one that may not be.
func spoils() []func(s *api.Setup) {
	return []func(s *api.Setup){
		func(s *api.Setup) { s.Unit = 0 },
		func(s *api.Setup) { s.Unit = 3601 },
		func(s *api.Setup) { s.Cap = 59 },
		func(s *api.Setup) { s.Cap = 57601 },
		func(s *api.Setup) { s.Places = 17 },
		func(s *api.Setup) { s.Ways[0].Meters = 0 },
		func(s *api.Setup) { s.Pace = frac(2, 4) },
		func(s *api.Setup) { s.Elements[5].Unit = frac(-1, 3) },
		func(s *api.Setup) { s.Classes[1] = api.Ratio{} },
		func(s *api.Setup) { s.Gears = slices.Repeat(s.Gears, 5) },
		func(s *api.Setup) { s.Allow = 101 },
		func(s *api.Setup) { s.PaidBreak = -1 },
		func(s *api.Setup) { s.DayReg = 1 },
		func(s *api.Setup) { s.NightTo = day + 1 },
		func(s *api.Setup) { s.Fault = -1 },
		func(s *api.Setup) { s.Fault = day + 1 },
		func(s *api.Setup) { s.Fault = greatest },
		func(s *api.Setup) { s.Fault = least },
		func(s *api.Setup) { s.Rates[2] = -1 },
		func(s *api.Setup) { s.Rates[0] = 100001 },
		func(s *api.Setup) { s.Rates = slices.Repeat(s.Rates, 6) },
		func(s *api.Setup) { s.Diff = -1 },
		func(s *api.Setup) { s.Tiers[1].Bonus = 100001 },
		func(s *api.Setup) { s.Tiers[0].Least = -1 },
		func(s *api.Setup) { s.Tiers[1].Least = 1001 },
		func(s *api.Setup) { s.Tiers[1].Least = s.Tiers[0].Least },
		func(s *api.Setup) { s.Tiers = make([]api.Tier, 9) },
		func(s *api.Setup) { *s = api.Setup{Tiers: s.Tiers, Rates: s.Rates, Fault: s.Fault} },
	}
}

// P18.1, P18.2: of a setup that may not be nothing was done, and no tier is reached, whatever is told.
func TestSetupMayNotBe(t *testing.T) {
	lists := [][]api.Event{nil, example(), and(example(), fault(6, 500)), list(in(1, 0), far(2, 100)), list(in(1, 0), of(2, 100, greater)),
		list(in(1, 0), of(2, 100, great), of(3, 150, great)), list(in(1, 0), of(2, 100, tiny), fault(9, 0)), many(24856, fault(10, 7))}
	for i, spoil := range spoils() {
		s := plan()
		spoil(&s)
		for _, l := range lists {
			if got := told(s, l, 0, 0); got != nothing() {
				t.Errorf("%d: Of(%+v, %v) = %v", i, s, l[:min(9, len(l))], got)
			}
		}
		for _, p := range []api.Ratio{frac(0, 1), frac(1, 2), frac(5, 1), frac(most, 1)} {
			if n := Tier(s, p); n != -1 {
				t.Errorf("%d: Tier(%+v, %v) = %d", i, s, p, n)
			}
		}
	}
	if got := told(api.Setup{}, example(), 0, 0); got != nothing() {
		t.Errorf("%v", got)
	}
}

// chosen is a setup that may be, by a fixed chance.
func chosen(r *rand.Rand) api.Setup {
	s := plan()
	s.Unit, s.Cap, s.Allow = []int{1, 7, 60, 900, 3600}[r.Intn(5)], 60+r.Intn([]int{200, 57541}[r.Intn(2)]), r.Intn(2)*r.Intn(101)
	s.Fault = []int{0, 1, 1 + r.Intn(60), r.Intn(day + 1)}[r.Intn(4)]
	share := func() api.Ratio { return ratioOf(big.NewRat(int64(r.Intn(12)), int64(1+r.Intn(12)))) }
	if r.Intn(3) > 0 {
		s.Elements[tiny], s.Elements[tinier], s.Elements[great].Fixed, s.Elements[greater] = api.Element{Fixed: share(), Unit: share()}, api.Element{Fixed: share(), Unit: share()}, share(), api.Element{Fixed: share(), Unit: share()}
	}
	if r.Intn(2) == 0 {
		s.Ways = append(s.Ways, api.Way{A: 2, B: 1, Meters: 1 + r.Intn(300)})
	}
	return s
}

// happened are events about two weeks' ends, by a fixed chance: of few numbers, so that many are of one.
func happened(r *rand.Rand) []api.Event {
	var l []api.Event
	reach, numbers := []int{300, 3000, 90000}[r.Intn(3)], []int{3, 9, 100001}[r.Intn(3)]
	for range r.Intn(50) {
		e := api.Event{ID: r.Intn(numbers), Worker: r.Intn(3) / 2, At: week - reach/2 + r.Intn(reach) + week*(r.Intn(5)/4), Kind: []int{1, 1, 1, 2, 3, 3, 3, 3, 3, 3, 4, 5, 6, 7}[r.Intn(14)]}
		if e.Kind == 3 {
			e.From, e.To, e.Element, e.Units, e.Class, e.Gear = r.Intn(2), r.Intn(2), r.Intn(6)*r.Intn(2), r.Intn([]int{4, 900, 10001}[r.Intn(3)]), r.Intn(2), r.Intn(2)
			if r.Intn(9) == 0 {
				e.To = 2
			}
		}
		if r.Intn(20) == 0 {
			spoiled := []*int{&e.ID, &e.Worker, &e.At, &e.Kind, &e.Element, &e.Units, &e.Code}
			*spoiled[r.Intn(len(spoiled))] = []int{-1, 10001, 3, 7, greatest, least}[r.Intn(6)]
		}
		l = append(l, e)
	}
	return l
}

// P18.1: setups and events of all sizes.
func TestSome(t *testing.T) {
	r := rand.New(rand.NewSource(182))
	seen := map[api.Errno]int{}
	done, floored, above := 0, 0, 0
	for range 20000 {
		s, l := chosen(r), happened(r)
		for n := range 3 {
			a := held(t, "some", s, l, r.Intn(3)/2, n)
			seen[a.e]++
			if a.eligible > 0 && a.e == 0 {
				done++
				if a.earned.Num == 0 {
					floored++
				}
				if a.perf.Num > a.perf.Den {
					above++
				}
			}
		}
	}
	if seen[0] < 10000 || seen[10] < 1000 || seen[100] < 700 || len(seen) != 3 || done < 5000 || floored < 1000 || above < 1000 {
		t.Errorf("%v, %d done, %d of nothing earned, %d above", seen, done, floored, above)
	}
}

// wild is any number, by a fixed chance.
func wild(r *rand.Rand) int {
	return []int{0, 1, 2, 3, 7, 60, -1, day, week, most, 1 << 31, 1 << 32, greatest, least, r.Int(), -r.Int()}[r.Intn(16)]
}

// P18.1, R1, R2: hand-made setups and events, all of whose numbers may be any; beside an error there are no ratios.
func TestHandMade(t *testing.T) {
	r := rand.New(rand.NewSource(183))
	odd := func() int { return wild(r) }
	for range 20000 {
		s := plan()
		if r.Intn(2) == 0 {
			numbers := []*int{&s.Places, &s.Ways[0].A, &s.Ways[0].B, &s.Ways[0].Meters, &s.Pace.Num, &s.Pace.Den, &s.Elements[1].Fixed.Num, &s.Elements[0].Unit.Den, &s.Classes[0].Num, &s.Gears[0].Den, &s.Allow,
				&s.Unit, &s.Cap, &s.PaidBreak, &s.DayReg, &s.DayOver, &s.Rates[0], &s.Fault, &s.Tiers[0].Least, &s.Tiers[1].Least, &s.Tiers[1].Bonus}
			*numbers[r.Intn(len(numbers))] = odd()
		}
		l := list(in(odd(), odd()), api.Event{ID: odd(), Worker: odd(), At: odd(), Kind: odd(), From: odd(), To: odd(), Element: odd(), Units: odd(), Class: odd(), Gear: odd(), Code: odd()},
			task(odd(), odd(), odd()), task(1, 5, odd()), of(odd(), 10, odd()), fault(odd(), odd()), fault(1, odd()), in(2, 0), by(odd(), task(3, 10, 4)))
		got := told(s, l, odd()*r.Intn(2), odd()*r.Intn(2))
		if !setup.Check(s) && got != nothing() {
			t.Fatalf("Of(%+v, %v) = %v", s, l, got)
		}
		if got.e != 0 && (got.earned != api.Ratio{} || got.perf != api.Ratio{}) || got.e != 0 && got.e != 10 && got.e != 100 {
			t.Fatalf("Of(%+v, %v) = %v", s, l, got)
		}
		if setup.Check(s) {
			held(t, "hand-made", s, l, 0, 0)
		}
		p := frac(odd(), odd())
		if n := Tier(s, p); n != saidTier(s, p) {
			t.Fatalf("Tier(%+v, %v) = %d, want %d", s, p, n, saidTier(s, p))
		}
	}
}

// P18.3: what other workers did, and events that may not be, change no answer; whatever stands between the worker's events.
func TestOthers(t *testing.T) {
	r := rand.New(rand.NewSource(184))
	for range 4000 {
		s, l := chosen(r), happened(r)
		var own []api.Event
		for _, e := range l {
			if e.Worker == 0 && mayBe(s, e) {
				own = append(own, e)
			}
		}
		for n := range 4 {
			with, without := told(s, l, 0, n), told(s, own, 0, n)
			if with != without {
				t.Fatalf("Of(%+v, %v, 0, %d) = %v, of the worker's own events %v", s, l, n, with, without)
			}
		}
		var more []api.Event
		for _, e := range own {
			more = append(more, by(1, e), e, by(2, e))
		}
		n := r.Intn(4)
		if with, without := told(s, more, 0, n), told(s, own, 0, n); with != without {
			t.Fatalf("Of(%+v, %v, 0, %d) = %v, of the worker's own events %v", s, more, n, with, without)
		}
	}
}

// isLess tells whether a is less than b, of ratios that may be.
func isLess(a, b api.Ratio) bool { return a.Num*b.Den < b.Num*a.Den }

// P18.3: with a fault more the performance is no greater, nor is what was earned, and the eligible seconds are the same; faults of other weeks, and other workers, change nothing.
func TestOneFaultMore(t *testing.T) {
	r := rand.New(rand.NewSource(185))
	compared, lesser := 0, 0
	for range 8000 {
		s, l := chosen(r), happened(r)
		n := r.Intn(4)
		a := told(s, l, 0, n)
		more := slices.Insert(slices.Clone(l), r.Intn(len(l)+1), fault(r.Intn(100001), n*week+r.Intn(week)))
		b := told(s, more, 0, n)
		if a.eligible != b.eligible {
			t.Fatalf("%+v, %v: %v, a fault more: %v", s, l, a, b)
		}
		for _, other := range []api.Event{by(1, fault(5, n*week)), fault(5, (n+1)*week), fault(5, n*week-1)} {
			if c := told(s, append(slices.Clone(l), other), 0, n); c != a {
				t.Fatalf("%+v, %v: %v, with %v: %v", s, l, a, other, c)
			}
		}
		if a.e != 0 || b.e != 0 {
			continue
		}
		compared++
		if isLess(a.perf, b.perf) || isLess(a.earned, b.earned) {
			t.Fatalf("%+v, %v: %v, a fault more: %v", s, l, a, b)
		}
		if isLess(b.perf, a.perf) {
			lesser++
		}
	}
	if compared < 2000 || lesser < 300 {
		t.Errorf("%d compared, %d lesser", compared, lesser)
	}
}

// tiers is a setup of tiers from so much on each.
func tiers(l ...int) api.Setup {
	s := plan()
	s.Tiers = nil
	for i, n := range l {
		s.Tiers = append(s.Tiers, api.Tier{Least: n, Bonus: 100 - i})
	}
	return s
}

// saidTier is what the document says of Tier: in whole numbers, which do not go over below 2^31.
func saidTier(s api.Setup, p api.Ratio) int {
	if !setup.Check(s) || p.Den < 1 || p.Den > most || p.Num < -most || p.Num > most || new(big.Int).GCD(nil, nil, new(big.Int).Abs(big.NewInt(int64(p.Num))), big.NewInt(int64(p.Den))).Int64() != 1 {
		return -1
	}
	for i := len(s.Tiers) - 1; i >= 0; i-- {
		if s.Tiers[i].Least*p.Den <= 100*p.Num {
			return i
		}
	}
	return -1
}

// P18.2: tiers that were found by hand.
func TestKnownTiers(t *testing.T) {
	none, one, three, full := tiers(), tiers(60), tiers(0, 85, 100), tiers(1, 2, 3, 4, 5, 6, 7, 1000)
	for i, c := range []struct {
		s    api.Setup
		p    api.Ratio
		want int
	}{
		{none, frac(0, 1), -1}, {none, frac(1, 1), -1}, {none, frac(most, 1), -1}, {none, frac(-1, 1), -1}, {none, api.Ratio{}, -1},
		{one, frac(3, 5), 0}, {one, frac(599, 1000), -1}, {one, frac(601, 1000), 0}, {one, frac(0, 1), -1}, {one, frac(1, 1), 0}, {one, frac(most, 1), 0}, {one, frac(1, most), -1},
		{one, frac(1288490188, most), -1}, {one, frac(1288490189, most), 0},
		{three, frac(0, 1), 0}, {three, frac(1, most), 0}, {three, frac(-1, most), -1}, {three, frac(-1, 1), -1}, {three, frac(-most, 1), -1},
		{three, frac(17, 20), 1}, {three, frac(849999, 1000000), 0}, {three, frac(850001, 1000000), 1}, {three, frac(1, 1), 2}, {three, frac(most, most-1), 2}, {three, frac(most-1, most), 1},
		{three, frac(most, 1), 2}, {three, frac(2, 1), 2}, {three, frac(9, 10), 1}, {three, frac(1, 2), 0},
		{full, frac(1, 100), 0}, {full, frac(1, 50), 1}, {full, frac(3, 100), 2}, {full, frac(7, 100), 6}, {full, frac(8, 1), 6}, {full, frac(10, 1), 7}, {full, frac(9999, 1000), 6}, {full, frac(1, 101), -1},
		{full, frac(most, 214748364), 7}, {full, frac(most, 214748365), 6}, {full, frac(11, 1), 7},
		{tiers(1000), frac(10, 1), 0}, {tiers(1000), frac(most, 214748365), -1}, {tiers(0), frac(0, 1), 0}, {tiers(0), frac(-1, 100), -1}, {tiers(1), frac(0, 1), -1},
		{tiers(99, 100, 101), frac(99, 100), 0}, {tiers(99, 100, 101), frac(1, 1), 1}, {tiers(99, 100, 101), frac(101, 100), 2}, {tiers(99, 100, 101), frac(49, 50), -1},
	} {
		if n := Tier(c.s, c.p); n != c.want {
			t.Errorf("%d: Tier(%v, %v) = %d, want %d", i, c.s.Tiers, c.p, n, c.want)
		}
		if n := saidTier(c.s, c.p); n != c.want {
			t.Errorf("%d: the document's words: Tier(%v, %v) = %d, want %d", i, c.s.Tiers, c.p, n, c.want)
		}
	}
}

// P18.2: performances that may not be reach no tier.
func TestNoPerformance(t *testing.T) {
	s := tiers(0, 85, 100)
	for _, p := range []api.Ratio{{}, frac(1, 0), frac(0, 2), frac(2, 2), frac(6, 4), frac(1, -1), frac(-1, -1), frac(most+1, 1), frac(most+2, 2), frac(1, most+1), frac(most+1, most+2), frac(5, 1<<32+1),
		frac(greatest, 1), frac(1, greatest), frac(least, 1), frac(1, least), frac(greatest, greatest), frac(least, least), frac(greatest, greatest-1), frac(1<<32+1, 1), frac(1<<33, 1<<32)} {
		if n := Tier(s, p); n != -1 {
			t.Errorf("Tier(%v) = %d", p, n)
		}
	}
	if n := Tier(s, frac(1, 1)); n != 2 {
		t.Errorf("%d", n)
	}
}

// P18.2: each Least that may be, at it, just below it, and just above it.
func TestEachLeast(t *testing.T) {
	for n := range 1001 {
		s := tiers(n)
		for _, d := range []int64{1, 3, 1000, 1000000} {
			for _, off := range []int64{-1, 0, 1} {
				p := ratioOf(big.NewRat(int64(n)*d+off, 100*d))
				want := -1
				if off >= 0 {
					want = 0
				}
				if got := Tier(s, p); got != want || saidTier(s, p) != want {
					t.Fatalf("Tier(%d, %v) = %d, want %d", n, p, got, want)
				}
			}
		}
	}
}

// P18.2: the answers of tiers of all sizes, by the document's words.
func TestSomeTiers(t *testing.T) {
	r := rand.New(rand.NewSource(186))
	seen := map[int]int{}
	for range 100000 {
		var l []int
		for range r.Intn(9) {
			l = append(l, r.Intn([]int{8, 120, 1001}[r.Intn(3)]))
		}
		slices.Sort(l)
		s := tiers(slices.Compact(l)...)
		p := frac(r.Intn(1200)-50, 1+r.Intn(120))
		if r.Intn(2) == 0 {
			p = ratioOf(exact(p))
		}
		if r.Intn(20) == 0 {
			p = frac(most-r.Intn(3), 1+r.Intn(most))
		}
		n := Tier(s, p)
		if n != saidTier(s, p) {
			t.Fatalf("Tier(%v, %v) = %d, want %d", s.Tiers, p, n, saidTier(s, p))
		}
		seen[n]++
	}
	for n := -1; n < 8; n++ {
		if seen[n] < 20 {
			t.Errorf("%v", seen)
			break
		}
	}
}

// P18.3: of a greater performance the tier is no lesser; of performances that rise, in small steps and in great ones.
func TestTiersRise(t *testing.T) {
	for _, s := range []api.Setup{tiers(), tiers(0), tiers(60), tiers(0, 85, 100), tiers(1, 2, 3, 4, 5, 6, 7, 1000), tiers(33, 66, 99, 133, 166)} {
		last := -1
		for n := -100; n < 12000; n++ {
			got := Tier(s, ratioOf(big.NewRat(int64(n), 1100)))
			if got < last || got > last+1 || got < 0 && last >= 0 {
				t.Fatalf("%v: at %d through 1100: %d behind %d", s.Tiers, n, got, last)
			}
			last = got
		}
		if last != len(s.Tiers)-1 {
			t.Errorf("%v: %d", s.Tiers, last)
		}
	}
	r := rand.New(rand.NewSource(187))
	for range 20000 {
		s := tiers(r.Intn(100), 100+r.Intn(100), 200+r.Intn(800))
		a, b := ratioOf(big.NewRat(int64(r.Intn(most)-most/4), int64(1+r.Intn(most)))), ratioOf(big.NewRat(int64(r.Intn(most)), int64(1+r.Intn(most/9))))
		if isLess(b, a) {
			a, b = b, a
		}
		if Tier(s, a) > Tier(s, b) {
			t.Fatalf("%v: %v: %d, %v: %d", s.Tiers, a, Tier(s, a), b, Tier(s, b))
		}
	}
}

// P18.3: a worker who did more is of no lesser tier, through both calls.
func TestMoreDone(t *testing.T) {
	s := tiers(50, 85, 100, 120)
	last, reached := -1, map[int]bool{}
	for units := range 1500 {
		_, _, p, e := Of(s, list(in(1, 0), task(2, 100, units), out(3, 1100), fault(4, 0)), 0, 0)
		n := Tier(s, p)
		if e != 0 || n < last || p != ratioOf(big.NewRat(int64(max(0, units-60)), 1000)) {
			t.Fatalf("%d units: %v, %d behind %d, %d", units, p, n, last, e)
		}
		last = n
		reached[n] = true
	}
	if len(reached) != 5 {
		t.Errorf("%v", reached)
	}
	if n := Tier(s, told(s, list(in(1, 0), far(2, 100)), 0, 0).perf); n != -1 {
		t.Errorf("%d", n)
	}
}

// roomy is a list with spare room, in which there stands what would change the answers.
func roomy[T any](l []T, spare ...T) []T {
	return append(append(make([]T, 0, len(l)+len(spare)), l...), spare...)[:len(l)]
}

// full is a setup all of whose lists have spare room, and lists are what stands in all of them, the spare room included, in memory of its own.
func full(s api.Setup) api.Setup {
	s.Ways, s.Elements, s.Classes = roomy(s.Ways, api.Way{A: 0, B: 2, Meters: 1}), roomy(s.Elements, api.Element{Unit: frac(1, 1)}), roomy(s.Classes, frac(9, 1))
	s.Gears, s.Rates, s.Tiers = roomy(s.Gears, frac(9, 1)), roomy(s.Rates, 7, -7), roomy(s.Tiers, api.Tier{Least: 61}, api.Tier{Least: -7})
	return s
}
func lists(s api.Setup) api.Setup {
	s.Ways, s.Elements, s.Classes = slices.Clone(s.Ways[:cap(s.Ways)]), slices.Clone(s.Elements[:cap(s.Elements)]), slices.Clone(s.Classes[:cap(s.Classes)])
	s.Gears, s.Rates, s.Tiers = slices.Clone(s.Gears[:cap(s.Gears)]), slices.Clone(s.Rates[:cap(s.Rates)]), slices.Clone(s.Tiers[:cap(s.Tiers)])
	return s
}

// alike tells whether the lists of two setups are the same ones.
func alike(a, b api.Setup) bool {
	return slices.Equal(a.Ways, b.Ways) && slices.Equal(a.Elements, b.Elements) && slices.Equal(a.Classes, b.Classes) &&
		slices.Equal(a.Gears, b.Gears) && slices.Equal(a.Rates, b.Rates) && slices.Equal(a.Tiers, b.Tiers)
}

// R3: what is handed in stays as it was, its spare room included, which tells nothing; whether there is an error or not.
func TestHandedIn(t *testing.T) {
	r := rand.New(rand.NewSource(188))
	for range 3000 {
		s, l := full(chosen(r)), happened(r)
		l = roomy(l, task(1, week+5, 900), fault(1, week+5), far(0, week-9), in(2, week))
		was := lists(s)
		held(t, "roomy", s, l, r.Intn(2), 1+r.Intn(2))
		p := frac(r.Intn(9), 1+r.Intn(9))
		if Tier(s, p) != saidTier(s, p) {
			t.Fatalf("Tier(%v, %v) = %d", s.Tiers, p, Tier(s, p))
		}
		if !alike(lists(s), was) {
			t.Fatalf("%+v was changed: %+v", was, lists(s))
		}
	}
	s := full(tiers(10, 60))
	if n := Tier(s, frac(5, 1)); n != 1 {
		t.Errorf("in the spare room: %d", n)
	}
}

// R3, R4: an answer is the same again, and stays as it is, whatever becomes of what was handed in, and of other answers.
func TestOwnMemory(t *testing.T) {
	s, l := plan(), and(example(), fault(6, 500))
	one, two := told(s, l, 0, 0), told(s, l, 0, 0)
	one.earned.Num, one.perf.Den = -7, -7
	for i := range l {
		l[i] = fault(i, 0)
	}
	clear(s.Elements)
	if two != whole(360, 600, 3, 5) {
		t.Errorf("%v", two)
	}
	if got := told(s, l, 0, 0); got != nothing() {
		t.Errorf("of other events, and a setup that may not be: %v", got)
	}
	is(t, "anew", plan(), and(example(), fault(6, 500)), 0, 0, two)
	is(t, "of other events", plan(), l, 0, 0, nothing())
}

// R1: as many events as there may be, and many more, all of one number too.
func TestMany(t *testing.T) {
	var l []api.Event
	for i := range 20000 {
		l = append(l, task(i+1, i+100, 1))
	}
	for i := range 50000 {
		l = append(l, by(i%3, fault(i, i)))
	}
	slices.Reverse(l)
	l = append(l, in(0, 50), out(0, 20100))
	want := answer{frac(0, 1), 20000, frac(0, 1), 0}
	if got := told(plan(), l, 0, 0); got != want {
		t.Errorf("%v", got)
	}
	want = answer{frac(20000, 1), 20000, frac(1, 1), 0}
	if got := told(withFault(0), l, 0, 0); got != want {
		t.Errorf("%v", got)
	}
	for i := range 20000 {
		l[50000+i].ID = 7
	}
	if got := told(withFault(0), l, 0, 0); got != want {
		t.Errorf("%v", got)
	}
}
