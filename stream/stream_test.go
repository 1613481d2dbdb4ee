package stream

import (
	"math"
	"math/rand"
	"slices"
	"sort"
	"strconv"
	"testing"

	"lumper/api"
	"lumper/event"
	"lumper/setup"
)

const (
	// lastTime and maxTime are as the document says them.
	lastTime = 31449599
	maxTime  = 53 * 604800

	least    = math.MinInt
	greatest = math.MaxInt
)

var one = api.Ratio{Num: 1, Den: 1}

// with is a setup, that may be, of a unit, a cap and three workers.
func with(unit, longest int) api.Setup {
	return api.Setup{Places: 2, Pace: one, Elements: []api.Element{{Fixed: one, Unit: one}}, Classes: []api.Ratio{one}, Gears: []api.Ratio{one},
		Unit: unit, Cap: longest, Rates: []int{1, 2, 3}}
}

// in, and the others, are events of worker 0.
func in(id, at int) api.Event    { return api.Event{ID: id, At: at, Kind: api.EIn} }
func out(id, at int) api.Event   { return api.Event{ID: id, At: at, Kind: api.EOut} }
func task(id, at int) api.Event  { return api.Event{ID: id, At: at, Kind: api.ETask, To: 1, Units: 5} }
func rest(id, at int) api.Event  { return api.Event{ID: id, At: at, Kind: api.EBreak} }
func done(id, at int) api.Event  { return api.Event{ID: id, At: at, Kind: api.EDone} }
func fault(id, at int) api.Event { return api.Event{ID: id, At: at, Kind: api.EFault} }
func code(id, at, n int) api.Event {
	return api.Event{ID: id, At: at, Kind: api.ECode, Code: n}
}

// of is the event, of another worker.
func of(worker int, e api.Event) api.Event {
	e.Worker = worker
	return e
}

// gap, and the others, are parts.
func gap(from, to, id int) api.Seg    { return api.Seg{From: from, To: to, ID: id} }
func direct(from, to, id int) api.Seg { return api.Seg{From: from, To: to, Kind: api.SDirect, ID: id} }
func away(from, to, id int) api.Seg   { return api.Seg{From: from, To: to, Kind: api.SBreak, ID: id} }
func indirect(from, to, id, n int) api.Seg {
	return api.Seg{From: from, To: to, Kind: api.SIndirect, ID: id, Code: n}
}

// list is a list of any things.
func list[T any](l ...T) []T { return l }

// ended, missed and outside are flags.
func ended(id int) api.Flag   { return api.Flag{ID: id, Kind: api.FlagCap} }
func missed(id int) api.Flag  { return api.Flag{ID: id, Kind: api.FlagMiss} }
func outside(id int) api.Flag { return api.Flag{ID: id, Kind: api.FlagOut} }

// rounded is what chapter 11 says of Round, of times that there are, by a unit from 1 on: multiples are tried.
func rounded(t, unit int) int {
	below := t - t%unit
	for _, n := range []int{below + unit, below} {
		if 2*max(n-t, t-n) <= unit {
			return min(n, maxTime)
		}
	}
	return -1
}

// mine is the document's 'A worker's events'.
func mine(s api.Setup, l []api.Event, worker int) []api.Event {
	var own []api.Event
	for _, e := range l {
		if event.Check(s, e) && e.Worker == worker && e.Kind != api.EFault {
			own = append(own, e)
		}
	}
	sort.SliceStable(own, func(i, j int) bool {
		return own[i].At < own[j].At || own[i].At == own[j].At && own[i].ID < own[j].ID
	})
	return own
}

// visit is a session, as it is told apart from all others: where it begins and ends, its events, what was not as it should, and at which event that comes up.
type visit struct {
	from, to int
	events   []api.Event
	flag     int
	up       int
}

// visits are the sessions of a worker's events, each found from its EIn alone; and which events are of none.
func visits(s api.Setup, own []api.Event) (all []visit, none []int) {
	ofOne := make([]bool, len(own))
	for i, e := range own {
		if e.Kind != api.EIn {
			continue
		}
		v := visit{from: e.At, to: e.At + s.Cap, flag: api.FlagCap, up: len(own)}
		ofOne[i] = true
		for j := i; j < len(own); j++ {
			if own[j].At > e.At+s.Cap {
				v.up = j
				break
			}
			if j > i && own[j].Kind == api.EIn {
				v.to, v.flag, v.up = own[j].At, api.FlagMiss, j
				break
			}
			ofOne[j] = true
			if own[j].Kind == api.EOut {
				v.to, v.flag = own[j].At, 0
				break
			}
			v.events = append(v.events, own[j])
		}
		all = append(all, v)
	}
	for i := range own {
		if !ofOne[i] {
			none = append(none, i)
		}
	}
	return all, none
}

// bySecond are a session's parts: each of its seconds asked by which event it is.
func bySecond(s api.Setup, v visit) []api.Seg {
	kinds := []int{0, api.SGap, 0, api.SDirect, api.SIndirect, api.SBreak, api.SGap}
	begin, end := rounded(v.from, s.Unit), rounded(v.to, s.Unit)
	var segs []api.Seg
	last := -1
	for t := begin; t < end; t++ {
		by := 0
		for i, e := range v.events {
			if i > 0 && e.At <= t {
				by = i
			}
		}
		if by == last {
			segs[len(segs)-1].To++
			continue
		}
		last = by
		e := v.events[by]
		segs = append(segs, api.Seg{From: t, To: t + 1, Kind: kinds[e.Kind], ID: e.ID, Code: e.Code})
	}
	return segs
}

// said is what the document says of Of, spelt out a second time.
func said(s api.Setup, l []api.Event, worker int) (segs []api.Seg, flags []api.Flag) {
	if !setup.Check(s) {
		return nil, nil
	}
	own := mine(s, l, worker)
	all, none := visits(s, own)
	for i := range len(own) + 1 {
		for _, v := range all {
			if v.flag != 0 && v.up == i {
				flags = append(flags, api.Flag{ID: v.events[0].ID, Kind: v.flag})
			}
		}
		if slices.Contains(none, i) {
			flags = append(flags, api.Flag{ID: own[i].ID, Kind: api.FlagOut})
		}
	}
	for _, v := range all {
		segs = append(segs, bySecond(s, v)...)
	}
	return segs, flags
}

// check holds Of against the document's words; the list stays as it was.
func check(t *testing.T, name string, s api.Setup, l []api.Event, worker int) {
	t.Helper()
	was := slices.Clone(l[:cap(l)])
	segs, flags := Of(s, l, worker)
	wantSegs, wantFlags := said(s, l, worker)
	if !slices.Equal(segs, wantSegs) || !slices.Equal(flags, wantFlags) {
		t.Fatalf("%s: Of(%d, %d, %v, %d) = %v, %v, want %v, %v", name, s.Unit, s.Cap, l, worker, segs, flags, wantSegs, wantFlags)
	}
	if !slices.Equal(l[:cap(l)], was) {
		t.Fatalf("%s: %v was changed: %v", name, was, l[:cap(l)])
	}
}

// known is a list of events of worker 0, and what is told of it.
type known struct {
	name          string
	unit, longest int
	l             []api.Event
	segs          []api.Seg
	flags         []api.Flag
}

// ordinary are days as they come.
func ordinary() []known {
	return []known{
		{"the chapter's example", 900, 36000, list(in(1, 400), task(2, 1000), out(3, 2000)), list(gap(0, 1000, 1), direct(1000, 1800, 2)), nil},
		{"eight hours without a break", 900, 36000, list(in(1, 28800), out(2, 57600)), list(gap(28800, 57600, 1)), nil},
		{"who comes twice, ten minutes apart", 1, 36000, list(in(1, 1000), in(2, 1600), out(3, 2000)), list(gap(1000, 1600, 1), gap(1600, 2000, 2)), list(missed(1))},
		{"who comes, and does not go", 1, 36000, list(in(1, 28800)), list(gap(28800, 64800, 1)), list(ended(1))},
		{"7 and 8 minutes behind 8", 900, 36000, list(in(1, 29220), out(2, 36000), in(3, 115680), out(4, 122400)), list(gap(28800, 36000, 1), gap(116100, 122400, 3)), nil},
		{"no events", 1, 600, nil, nil, nil},
		{"an empty list", 1, 600, []api.Event{}, nil, nil},
		{"one punch in", 1, 600, list(in(7, 100)), list(gap(100, 700, 7)), list(ended(7))},
		{"one punch out", 1, 600, list(out(7, 100)), nil, list(outside(7))},
		{"one of each kind outside", 1, 600, list(out(1, 10), task(2, 20), code(3, 30, 5), rest(4, 40), done(5, 50)), nil, list(outside(1), outside(2), outside(3), outside(4), outside(5))},
		{"one of each kind inside", 1, 600, list(in(1, 10), task(2, 20), code(3, 30, 5), rest(4, 40), done(5, 50), out(6, 60)),
			list(gap(10, 20, 1), direct(20, 30, 2), indirect(30, 40, 3, 5), away(40, 50, 4), gap(50, 60, 5)), nil},
		{"outside, inside, outside, inside, outside", 1, 600, list(task(1, 5), in(2, 10), out(3, 20), out(4, 25), rest(5, 26), in(6, 30), out(7, 40), done(8, 50)),
			list(gap(10, 20, 2), gap(30, 40, 6)), list(outside(1), outside(4), outside(5), outside(8))},
		{"the same kind again", 1, 600, list(in(1, 10), task(2, 20), task(3, 30), code(4, 40, 1), code(5, 50, 1), code(6, 60, 2), rest(7, 70), rest(8, 80), done(9, 90), done(10, 95), out(11, 99)),
			list(gap(10, 20, 1), direct(20, 30, 2), direct(30, 40, 3), indirect(40, 50, 4, 1), indirect(50, 60, 5, 1), indirect(60, 70, 6, 2), away(70, 80, 7), away(80, 90, 8), gap(90, 95, 9), gap(95, 99, 10)), nil},
		{"the least code, and the greatest one", 1, 600, list(in(1, 10), code(2, 20, 0), code(3, 30, 99), out(4, 40)), list(gap(10, 20, 1), indirect(20, 30, 2, 0), indirect(30, 40, 3, 99)), nil},
		{"who comes three times, and works", 1, 600, list(in(1, 10), task(2, 20), in(3, 30), rest(4, 40), in(5, 50), code(6, 60, 3), out(7, 70), out(8, 80)),
			list(gap(10, 20, 1), direct(20, 30, 2), gap(30, 40, 3), away(40, 50, 4), gap(50, 60, 5), indirect(60, 70, 6, 3)), list(missed(1), missed(3), outside(8))},
		{"numbers that fall", 1, 600, list(in(9, 10), task(8, 20), out(7, 30), rest(6, 40)), list(gap(10, 20, 9), direct(20, 30, 8)), list(outside(6))},
		{"number 0, and the greatest one", 1, 600, list(in(0, 10), task(100000, 20), in(100000, 30), out(0, 30)), list(gap(10, 20, 0), direct(20, 30, 100000), gap(30, 630, 100000)), list(ended(100000))},
	}
}

// atCap are sessions about their caps.
func atCap() []known {
	return []known{
		{"goes a second ahead", 1, 600, list(in(1, 100), out(2, 699)), list(gap(100, 699, 1)), nil},
		{"goes at its cap", 1, 600, list(in(1, 100), out(2, 700)), list(gap(100, 700, 1)), nil},
		{"goes a second behind", 1, 600, list(in(1, 100), out(2, 701)), list(gap(100, 700, 1)), list(ended(1), outside(2))},
		{"works a second ahead", 1, 600, list(in(1, 100), task(2, 699)), list(gap(100, 699, 1), direct(699, 700, 2)), list(ended(1))},
		{"works at its cap", 1, 600, list(in(1, 100), task(2, 700)), list(gap(100, 700, 1)), list(ended(1))},
		{"works a second behind", 1, 600, list(in(1, 100), task(2, 701)), list(gap(100, 700, 1)), list(ended(1), outside(2))},
		{"comes a second ahead", 1, 600, list(in(1, 100), in(2, 699), out(3, 800)), list(gap(100, 699, 1), gap(699, 800, 2)), list(missed(1))},
		{"comes at its cap", 1, 600, list(in(1, 100), in(2, 700), out(3, 800)), list(gap(100, 700, 1), gap(700, 800, 2)), list(missed(1))},
		{"comes a second behind", 1, 600, list(in(1, 100), in(2, 701), out(3, 800)), list(gap(100, 700, 1), gap(701, 800, 2)), list(ended(1))},
		{"works, and goes, at its cap", 1, 600, list(in(1, 100), task(2, 700), out(3, 700), rest(4, 700)), list(gap(100, 700, 1)), list(outside(4))},
		{"the cap is that of who came last", 1, 600, list(in(1, 100), in(2, 400), task(3, 800), out(4, 1000)), list(gap(100, 400, 1), gap(400, 800, 2), direct(800, 1000, 3)), list(missed(1))},
		{"much behind its cap", 1, 600, list(in(1, 100), task(2, 200), out(3, 90000), in(4, 95000)), list(gap(100, 200, 1), direct(200, 700, 2), gap(95000, 95600, 4)), list(ended(1), outside(3), ended(4))},
		{"one flag behind the other", 1, 600, list(in(5, 100), task(4, 701), in(3, 800), in(2, 900), rest(1, 1501)), list(gap(100, 700, 5), gap(800, 900, 3), gap(900, 1500, 2)),
			list(ended(5), outside(4), missed(3), ended(2), outside(1))},
		{"the least cap", 1, 60, list(in(1, 100), task(2, 160), rest(3, 161)), list(gap(100, 160, 1)), list(ended(1), outside(3))},
		{"the greatest cap", 1, 57600, list(in(1, 100), task(2, 57700), in(3, 57701)), list(gap(100, 57700, 1), gap(57701, 115301, 3)), list(ended(1), ended(3))},
		{"at its cap, behind its told end", 3600, 57600, list(in(1, 1799), rest(2, 59399), out(3, 59400)), list(gap(0, 57600, 1)), list(ended(1), outside(3))},
		{"at its cap, ahead of its told end", 3600, 57600, list(in(1, 1801), rest(2, 59401)), list(gap(3600, 59401, 1), away(59401, 61200, 2)), list(ended(1))},
	}
}

// byUnit are sessions whose ends are rounded.
func byUnit() []known {
	return []known{
		{"begins earlier, and ends later", 100, 600, list(in(1, 149), task(2, 150), rest(3, 310), out(4, 350)), list(gap(100, 150, 1), direct(150, 310, 2), away(310, 400, 3)), nil},
		{"an event ahead of the told beginning", 100, 600, list(in(1, 150), task(2, 160), rest(3, 240), out(4, 310)), list(direct(200, 240, 2), away(240, 300, 3)), nil},
		{"an event at the told beginning", 100, 600, list(in(1, 150), task(2, 200), rest(3, 240), out(4, 310)), list(direct(200, 240, 2), away(240, 300, 3)), nil},
		{"an event a second behind the told beginning", 100, 600, list(in(1, 150), task(2, 201), out(4, 310)), list(gap(200, 201, 1), direct(201, 300, 2)), nil},
		{"several ahead of the told beginning", 100, 600, list(in(1, 150), task(2, 160), rest(3, 170), code(4, 199, 8), out(5, 310)), list(indirect(200, 300, 4, 8)), nil},
		{"all ahead of the told beginning, and at it", 100, 600, list(in(1, 150), task(2, 160), rest(3, 200), done(4, 200), out(5, 310)), list(gap(200, 300, 4)), nil},
		{"an event behind the told end", 100, 600, list(in(1, 100), task(2, 210), rest(3, 345), out(4, 349)), list(gap(100, 210, 1), direct(210, 300, 2)), nil},
		{"an event at the told end", 100, 600, list(in(1, 100), task(2, 210), rest(3, 300), out(4, 349)), list(gap(100, 210, 1), direct(210, 300, 2)), nil},
		{"an event a second ahead of the told end", 100, 600, list(in(1, 100), rest(3, 299), out(4, 349)), list(gap(100, 299, 1), away(299, 300, 3)), nil},
		{"several behind the told end", 100, 600, list(in(1, 100), task(2, 301), rest(3, 302), code(4, 340, 8), out(5, 349)), list(gap(100, 300, 1)), nil},
		{"one ahead, and one behind", 100, 600, list(in(1, 160), task(2, 170), rest(3, 330), out(4, 340)), list(direct(200, 300, 2)), nil},
		{"one within, rounded to nothing", 100, 600, list(in(1, 151), task(2, 160), rest(3, 200), code(4, 240, 1), out(5, 249)), nil, nil},
		{"nothing at a multiple", 100, 600, list(in(1, 160), task(2, 200), rest(3, 230), out(4, 240)), nil, nil},
		{"nothing ahead of a multiple", 100, 600, list(in(1, 150), out(2, 199)), nil, nil},
		{"nothing behind a multiple", 100, 600, list(in(1, 200), out(2, 249)), nil, nil},
		{"a unit, of two seconds", 100, 600, list(in(1, 149), out(2, 151)), list(gap(100, 200, 1)), nil},
		{"nothing at 0", 3600, 57600, list(in(1, 0), task(2, 800), out(3, 1799)), nil, nil},
		{"a unit at 0", 3600, 57600, list(in(1, 0), task(2, 800), out(3, 1800)), list(gap(0, 800, 1), direct(800, 3600, 2)), nil},
		{"one that ends rounded up, and the next one", 100, 600, list(in(1, 100), in(2, 150), task(3, 160), out(4, 250)), list(gap(100, 200, 1), direct(200, 300, 3)), list(missed(1))},
		{"one that ends rounded down, and the next one", 100, 600, list(in(1, 100), rest(2, 210), in(3, 249), out(4, 250)), list(gap(100, 200, 1), gap(200, 300, 3)), list(missed(1))},
		{"one rounded to nothing between two", 100, 600, list(in(1, 100), in(2, 160), in(3, 240), out(4, 340)), list(gap(100, 200, 1), gap(200, 300, 3)), list(missed(1), missed(2))},
		{"a unit greater than the cap", 3600, 60, list(in(1, 1770), task(2, 1780), in(3, 1900), out(4, 1960), in(5, 5300)), list(gap(0, 1780, 1), direct(1780, 3600, 2)), list(ended(1), ended(5))},
		{"a cap that is rounded up", 900, 1000, list(in(1, 900)), list(gap(900, 1800, 1)), list(ended(1))},
		{"a cap that is rounded down, and a beginning up", 900, 1000, list(in(1, 1350), task(2, 2300), in(3, 4600)), list(gap(1800, 2300, 1), direct(2300, 2700, 2), gap(4500, 5400, 3)), list(ended(1), ended(3))},
		{"a unit of 1", 1, 600, list(in(1, 149), task(2, 150), rest(3, 345), out(4, 349)), list(gap(149, 150, 1), direct(150, 345, 2), away(345, 349, 3)), nil},
		{"a unit of 2", 2, 600, list(in(1, 149), task(2, 150), rest(3, 348), out(4, 349)), list(direct(150, 348, 2), away(348, 350, 3)), nil},
	}
}

// together are events that are at the same second.
func together() []known {
	return []known{
		{"comes, and goes", 1, 600, list(in(1, 100), out(2, 100)), nil, nil},
		{"goes, and comes", 1, 600, list(out(1, 100), in(2, 100), out(3, 130)), list(gap(100, 130, 2)), list(outside(1))},
		{"comes again", 1, 600, list(in(1, 100), in(2, 100), in(3, 100), out(4, 130)), list(gap(100, 130, 3)), list(missed(1), missed(2))},
		{"goes again", 1, 600, list(in(1, 90), out(2, 100), out(3, 100)), list(gap(90, 100, 1)), list(outside(3))},
		{"goes, and comes, in a session", 1, 600, list(in(1, 90), out(2, 100), in(3, 100), out(4, 130)), list(gap(90, 100, 1), gap(100, 130, 3)), nil},
		{"comes, and goes, in a session", 1, 600, list(in(1, 90), in(2, 100), out(3, 100), out(4, 130)), list(gap(90, 100, 1)), list(missed(1), outside(4))},
		{"works at once", 1, 600, list(in(1, 100), task(2, 100), out(3, 130)), list(direct(100, 130, 2)), nil},
		{"works, and comes", 1, 600, list(task(1, 100), in(2, 100), out(3, 130)), list(gap(100, 130, 2)), list(outside(1))},
		{"works up to the end", 1, 600, list(in(1, 100), task(2, 130), out(3, 130)), list(gap(100, 130, 1)), nil},
		{"works behind the end", 1, 600, list(in(1, 100), out(2, 130), task(3, 130)), list(gap(100, 130, 1)), list(outside(3))},
		{"the last of several", 1, 600, list(in(1, 100), task(2, 110), rest(3, 110), code(4, 110, 7), task(5, 110), done(6, 120), rest(7, 120), out(8, 130)),
			list(gap(100, 110, 1), direct(110, 120, 5), away(120, 130, 7)), nil},
		{"all at the first second", 1, 600, list(in(1, 0), task(2, 0), rest(3, 0), out(4, 0), task(5, 0), in(6, 0), rest(7, 0)), list(away(0, 600, 7)), list(outside(5), ended(6))},
		{"all at the last second", 1, 600, list(task(1, lastTime), in(2, lastTime), task(3, lastTime), in(4, lastTime), rest(5, lastTime)),
			list(away(lastTime, lastTime+600, 5)), list(outside(1), missed(2), ended(4))},
	}
}

// atEnd are events at the last second of one.
func atEnd() []known {
	return []known{
		{"comes", 1, 57600, list(in(1, lastTime)), list(gap(lastTime, lastTime+57600, 1)), list(ended(1))},
		{"comes, rounded up", 900, 36000, list(in(1, lastTime)), list(gap(lastTime+1, lastTime+36001, 1)), list(ended(1))},
		{"comes, rounded by the greatest unit", 3600, 57600, list(in(1, lastTime)), list(gap(lastTime+1, lastTime+57601, 1)), list(ended(1))},
		{"goes", 1, 57600, list(in(1, lastTime-100), out(2, lastTime)), list(gap(lastTime-100, lastTime, 1)), nil},
		{"goes, rounded up", 900, 57600, list(in(1, lastTime-899), rest(2, lastTime-1), out(3, lastTime)), list(gap(lastTime-899, lastTime-1, 1), away(lastTime-1, lastTime+1, 2)), nil},
		{"goes a second later", 1, 57600, list(in(1, lastTime-100), out(2, lastTime+1)), list(gap(lastTime-100, lastTime+57500, 1)), list(ended(1))},
		{"works", 1, 60, list(in(1, lastTime-30), task(2, lastTime)), list(gap(lastTime-30, lastTime, 1), direct(lastTime, lastTime+30, 2)), list(ended(1))},
		{"works outside", 1, 60, list(in(1, lastTime-61), task(2, lastTime)), list(gap(lastTime-61, lastTime-1, 1)), list(ended(1), outside(2))},
		{"all that there is", 1, 600, list(in(1, 0), out(2, lastTime)), list(gap(0, 600, 1)), list(ended(1), outside(2))},
	}
}

// beside are events that are none of worker 0's.
func beside() []known {
	return []known{
		{"others", 1, 600, list(in(1, 100), of(1, in(2, 110)), of(2, out(3, 120)), of(1, task(4, 130)), out(5, 140)), list(gap(100, 140, 1)), nil},
		{"others alone", 1, 600, list(of(1, in(1, 100)), of(2, out(2, 120))), nil, nil},
		{"faults", 1, 600, list(fault(1, 90), in(2, 100), fault(3, 110), task(4, 120), fault(5, 130), out(6, 140), fault(7, 150)), list(gap(100, 120, 2), direct(120, 140, 4)), nil},
		{"a fault behind the cap", 1, 600, list(in(1, 100), fault(2, 701)), list(gap(100, 700, 1)), list(ended(1))},
		{"times that are none", 1, 600, list(in(1, -1), in(2, lastTime+1), in(3, least), in(4, greatest), in(5, 100), out(6, -5), out(7, lastTime+1)), list(gap(100, 700, 5)), list(ended(5))},
		{"numbers that are none", 1, 600, list(in(-1, 50), in(100001, 60), in(least, 70), in(3, 100), out(-1, 110), out(100001, 120), out(greatest, 130)), list(gap(100, 700, 3)), list(ended(3))},
		{"kinds that there are not", 1, 600, list(in(1, 100), api.Event{ID: 2, At: 110}, api.Event{ID: 3, At: 120, Kind: 8}, api.Event{ID: 4, At: 130, Kind: -1}, api.Event{ID: 5, At: 140, Kind: least}, out(6, 150)), list(gap(100, 150, 1)), nil},
		{"a punch with a task's number", 1, 600, list(in(1, 100), api.Event{ID: 2, At: 110, Kind: api.EOut, To: 1}, api.Event{ID: 3, At: 115, Kind: api.EIn, Code: 1}, out(4, 150)), list(gap(100, 150, 1)), nil},
		{"tasks of what there is not", 1, 600, list(in(1, 100), api.Event{ID: 2, At: 110, Kind: api.ETask, To: 2}, api.Event{ID: 3, At: 111, Kind: api.ETask, From: 2}, api.Event{ID: 4, At: 112, Kind: api.ETask, Element: 1},
			api.Event{ID: 5, At: 113, Kind: api.ETask, Class: 1}, api.Event{ID: 6, At: 114, Kind: api.ETask, Gear: 1}, api.Event{ID: 7, At: 115, Kind: api.ETask, Units: 10001}, api.Event{ID: 8, At: 116, Kind: api.ETask, Code: 1},
			api.Event{ID: 9, At: 117, Kind: api.ETask, Units: 10000}, out(10, 150)), list(gap(100, 117, 1), direct(117, 150, 9)), nil},
		{"codes that there are not", 1, 600, list(in(1, 100), code(2, 110, 100), code(3, 120, -1), out(4, 150)), list(gap(100, 150, 1)), nil},
		{"one number twice", 1, 600, list(in(1, 100), task(1, 110), rest(1, 120), out(1, 130), out(1, 140)), list(gap(100, 110, 1), direct(110, 120, 1), away(120, 130, 1)), list(outside(1))},
		{"one number, and another worker", 1, 600, list(of(1, in(1, 100)), in(1, 100), of(1, out(2, 110)), out(2, 130)), list(gap(100, 130, 1)), nil},
	}
}

// all is every list that stands here.
func all() []known {
	return slices.Concat(ordinary(), atCap(), byUnit(), together(), atEnd(), beside())
}

// P12.1: lists whose answers are told one by one, in order, the other way round, and otherwise.
func TestKnown(t *testing.T) {
	r := rand.New(rand.NewSource(121))
	for _, c := range all() {
		s := with(c.unit, c.longest)
		if !setup.Check(s) {
			t.Fatalf("%s: the setup may not be", c.name)
		}
		l := slices.Clone(c.l)
		for turn := range 12 {
			segs, flags := Of(s, l, 0)
			if !slices.Equal(segs, c.segs) || !slices.Equal(flags, c.flags) {
				t.Errorf("%s: Of(%v) = %v, %v, want %v, %v", c.name, l, segs, flags, c.segs, c.flags)
			}
			check(t, c.name, s, l, 0)
			if turn == 0 {
				slices.Reverse(l)
			} else {
				r.Shuffle(len(l), func(i, j int) { l[i], l[j] = l[j], l[i] })
			}
		}
	}
}

// P12.1: the same for every worker that there is, and nothing for any other one.
func TestWorkers(t *testing.T) {
	for _, c := range all() {
		for worker := range 3 {
			l := slices.Clone(c.l)
			for i := range l {
				l[i].Worker = (l[i].Worker + worker) % 3
			}
			segs, flags := Of(with(c.unit, c.longest), l, worker)
			if !slices.Equal(segs, c.segs) || !slices.Equal(flags, c.flags) {
				t.Errorf("%s: worker %d: %v, %v", c.name, worker, segs, flags)
			}
			for other := range 3 {
				check(t, c.name, with(c.unit, c.longest), l, other)
			}
		}
		for _, worker := range []int{3, 4, 16, -1, -2, least, greatest} {
			l := slices.Clone(c.l)
			for range 2 {
				if segs, flags := Of(with(c.unit, c.longest), l, worker); len(segs) != 0 || len(flags) != 0 {
					t.Errorf("%s: worker %d: %v, %v", c.name, worker, segs, flags)
				}
				for i := range l {
					l[i].Worker = worker
				}
			}
		}
	}
}

// P12.1: of events with one time and one number the one that was in front stays so: there is nothing else to tell them apart.
func TestSameTimeAndNumber(t *testing.T) {
	s := with(1, 600)
	for _, c := range []struct {
		l     []api.Event
		segs  []api.Seg
		flags []api.Flag
	}{
		{list(in(1, 100), out(1, 100)), nil, nil},
		{list(out(1, 100), in(1, 100)), list(gap(100, 700, 1)), list(outside(1), ended(1))},
		{list(in(1, 100), task(2, 150), rest(2, 150), out(3, 200)), list(gap(100, 150, 1), away(150, 200, 2)), nil},
		{list(in(1, 100), rest(2, 150), task(2, 150), out(3, 200)), list(gap(100, 150, 1), direct(150, 200, 2)), nil},
		{list(out(3, 200), code(2, 150, 4), code(2, 150, 5), in(1, 100)), list(gap(100, 150, 1), indirect(150, 200, 2, 5)), nil},
	} {
		if segs, flags := Of(s, c.l, 0); !slices.Equal(segs, c.segs) || !slices.Equal(flags, c.flags) {
			t.Errorf("%v: %v, %v", c.l, segs, flags)
		}
		check(t, "same", s, c.l, 0)
	}
	// So many of them, in no order, that a sort that does not keep them would show.
	r := rand.New(rand.NewSource(1212))
	for range 50 {
		l := list(out(9, 300), in(1, 100))
		for range 400 {
			l = append(l, code(2, 150+r.Intn(20), r.Intn(100)))
		}
		r.Shuffle(len(l), func(i, j int) { l[i], l[j] = l[j], l[i] })
		check(t, "many the same", s, l, 0)
		want := list(gap(100, 150, 1))
		for at := 150; at < 170; at++ {
			last := l[0]
			for _, e := range l {
				if e.At == at {
					last = e
				}
			}
			want = append(want, indirect(at, at+1, 2, last.Code))
		}
		want[len(want)-1].To = 300
		if segs, flags := Of(s, l, 0); !slices.Equal(segs, want) || len(flags) != 0 {
			t.Fatalf("%v: %v, %v, want %v", l, segs, flags, want)
		}
	}
}

// P12.1: of a setup that may not be there is nothing; one step back there is.
func TestNoSetup(t *testing.T) {
	l := list(in(1, 400), task(2, 1000), out(3, 2000), out(4, 2100))
	for name, spoil := range map[string]func(*api.Setup){
		"no unit":              func(s *api.Setup) { s.Unit = 0 },
		"a unit below 0":       func(s *api.Setup) { s.Unit = -900 },
		"a unit too great":     func(s *api.Setup) { s.Unit = 3601 },
		"no cap":               func(s *api.Setup) { s.Cap = 0 },
		"a cap too small":      func(s *api.Setup) { s.Cap = 59 },
		"a cap too great":      func(s *api.Setup) { s.Cap = 57601 },
		"a cap below 0":        func(s *api.Setup) { s.Cap = least },
		"a cap of all numbers": func(s *api.Setup) { s.Cap = greatest },
		"no places":            func(s *api.Setup) { s.Places = 0 },
		"no pace":              func(s *api.Setup) { s.Pace = api.Ratio{} },
		"no rates":             func(s *api.Setup) { s.Rates = nil },
		"a rate below 0":       func(s *api.Setup) { s.Rates[2] = -1 },
		"a way to itself":      func(s *api.Setup) { s.Ways = list(api.Way{Meters: 1}) },
		"a day too long":       func(s *api.Setup) { s.DayOver = 86401 },
		"tiers that fall":      func(s *api.Setup) { s.Tiers = list(api.Tier{Least: 2}, api.Tier{Least: 1}) },
		"nothing at all":       func(s *api.Setup) { *s = api.Setup{} },
	} {
		s := with(900, 36000)
		if segs, flags := Of(s, l, 0); len(segs) != 2 || len(flags) != 1 {
			t.Fatalf("%s: %v, %v", name, segs, flags)
		}
		spoil(&s)
		if segs, flags := Of(s, l, 0); len(segs) != 0 || len(flags) != 0 {
			t.Errorf("%s: %v, %v", name, segs, flags)
		}
	}
}

// P12.1: what the setup says of other things does not matter.
func TestSetupBeside(t *testing.T) {
	r := rand.New(rand.NewSource(122))
	for range 300 {
		s := with(1+r.Intn(100), 60+r.Intn(600))
		l := some(r, s, 12)
		segs, flags := Of(s, l, 0)
		s.Ways, s.Allow, s.PaidBreak, s.AutoAfter, s.AutoBreak = list(api.Way{A: 0, B: 1, Meters: 7}), 10, 1200, 21600, 1800
		s.DayReg, s.DayOver, s.WeekReg, s.NightFrom, s.NightTo = 28800, 43200, 144000, 79200, 21600
		s.Diff, s.Least, s.Fault, s.Tiers = 75, 725, 60, list(api.Tier{Least: 100, Bonus: 150})
		if !setup.Check(s) {
			t.Fatal("the setup may not be")
		}
		if a, b := Of(s, l, 0); !slices.Equal(a, segs) || !slices.Equal(b, flags) {
			t.Fatalf("%v: %v, %v, want %v, %v", l, a, b, segs, flags)
		}
	}
}

// some are up to so many events by chance, each of a number of its own, near one another: at the same second, at a cap, or about a unit's multiples and middles.
func some(r *rand.Rand, s api.Setup, most int) []api.Event {
	base := []int{0, 90000, 604800, lastTime - 2*s.Cap, lastTime}[r.Intn(5)]
	var l []api.Event
	for id := range r.Intn(most + 1) {
		at := base + r.Intn(3*s.Cap) - s.Cap/2
		if len(l) > 0 {
			near := l[r.Intn(len(l))].At
			switch r.Intn(7) {
			case 0:
				at = near
			case 1:
				at = near + r.Intn(3) - 1
			case 2:
				at = near + s.Cap + r.Intn(3) - 1
			case 3:
				at = near - near%s.Unit + []int{-s.Unit / 2, 0, s.Unit / 2, s.Unit}[r.Intn(4)] + r.Intn(3) - 1
			case 4:
				at = near + r.Intn(2*s.Unit)
			}
		}
		e := api.Event{ID: id, At: at, Kind: []int{1, 1, 1, 2, 2, 3, 3, 4, 5, 6, 7}[r.Intn(11)], Worker: []int{0, 0, 0, 0, 1, 2}[r.Intn(6)]}
		switch {
		case e.Kind == api.ETask:
			e.From, e.Units = r.Intn(2), r.Intn(9)
		case e.Kind == api.ECode:
			e.Code = r.Intn(100)
		}
		if r.Intn(12) == 0 { // one that may not be
			[]func(){func() { e.Kind = 8 }, func() { e.Kind = 0 }, func() { e.Code = -1 }, func() { e.To = 2 }, func() { e.Worker = 3 }, func() { e.ID = -1 - e.ID }, func() { e.ID += 100001 }}[r.Intn(7)]()
		}
		l = append(l, e)
	}
	r.Shuffle(len(l), func(i, j int) { l[i], l[j] = l[j], l[i] })
	return l
}

// shapes are setups of units and caps of all kinds, whose sessions are short.
func shapes(r *rand.Rand) api.Setup {
	unit := []int{1, 2, 3, 7, 10, 59, 60, 100, 1 + r.Intn(120), 900, 3600}[r.Intn(11)]
	return with(unit, []int{60, 61, 100, 60 + r.Intn(400)}[r.Intn(4)])
}

// P12.1: lists by chance, of all workers.
func TestSome(t *testing.T) {
	r := rand.New(rand.NewSource(123))
	for i := range 12000 {
		s := shapes(r)
		l := some(r, s, 14)
		for worker := -1; worker < 4; worker++ {
			check(t, strconv.Itoa(i), s, l, worker)
		}
	}
}

// P12.1: all lists of up to four events of the kinds at a few seconds, each in the order told and the other way round.
func TestEachShortList(t *testing.T) {
	var single []api.Event
	for _, at := range []int{100, 104, 105, 160, 161} {
		for _, kind := range []int{api.EIn, api.EOut, api.ETask} {
			single = append(single, api.Event{At: at, Kind: kind})
		}
	}
	s := with(10, 60)
	var l []api.Event
	var grow func(int)
	grow = func(left int) {
		check(t, "short", s, l, 0)
		if left == 0 {
			return
		}
		for _, e := range single {
			e.ID = []int{3, 1, 4, 2}[len(l)]
			l = append(l, e)
			grow(left - 1)
			l = l[:len(l)-1]
		}
	}
	grow(3)
	r := rand.New(rand.NewSource(124))
	for range 20000 {
		l = nil
		for _, id := range r.Perm(4) {
			e := single[r.Intn(len(single))]
			e.ID = id
			l = append(l, e)
		}
		check(t, "short", s, l, 0)
	}
}

// P12.1: one event about every second that matters to one session, of all units about a few caps.
func TestAboutEdges(t *testing.T) {
	for _, unit := range []int{1, 2, 3, 10, 59, 60, 61, 100} {
		for _, longest := range []int{60, 61, 99, 100} {
			s := with(unit, longest)
			for start := 200; start <= 200+unit; start += 1 + unit/7 {
				for at := start - 2; at <= start+longest+2; at++ {
					for kind := 1; kind <= 7; kind++ {
						check(t, "edge", s, list(in(5, start), api.Event{ID: 4, At: at, Kind: kind}), 0)
						check(t, "edge", s, list(in(5, start), rest(7, start+longest/2), api.Event{ID: 6, At: at, Kind: kind}), 0)
					}
				}
			}
		}
	}
}

// P12.1: the greatest cap, and the greatest unit, at the first and the last second of an event.
func TestGreatest(t *testing.T) {
	for _, unit := range []int{1, 900, 3599, 3600} {
		s := with(unit, 57600)
		for _, at := range []int{0, 1, 1799, 1800, 1801, 604800, lastTime - 57601, lastTime - 57600, lastTime - 57599, lastTime - 1, lastTime} {
			check(t, "greatest", s, list(in(1, at)), 0)
			check(t, "greatest", s, list(in(1, at), task(2, min(lastTime, at+57600)), out(3, min(lastTime, at+57601))), 0)
			check(t, "greatest", s, list(in(1, max(0, at-57600)), rest(2, at), in(3, at)), 0)
		}
	}
}

// P12.3: parts rise, and share no second.
func TestPartsRise(t *testing.T) {
	r := rand.New(rand.NewSource(125))
	for range 20000 {
		s := shapes(r)
		l := some(r, s, 20)
		segs, _ := Of(s, l, 0)
		end := 0
		for _, p := range segs {
			if p.From < end || p.From >= p.To || p.To > maxTime {
				t.Fatalf("%v: %v", l, segs)
			}
			end = p.To
		}
	}
}

// P12.3: a session has no more than Cap and Unit seconds.
func TestSessionsEnd(t *testing.T) {
	r := rand.New(rand.NewSource(126))
	for range 20000 {
		s := shapes(r)
		l := some(r, s, 20)
		segs, _ := Of(s, l, 0)
		sessions, _ := visits(s, mine(s, l, 0))
		left := len(segs)
		for _, v := range sessions {
			var its []api.Seg
			for _, p := range segs {
				if slices.ContainsFunc(v.events, func(e api.Event) bool { return e.ID == p.ID }) {
					its = append(its, p)
				}
			}
			left -= len(its)
			if len(its) > 0 && its[len(its)-1].To-its[0].From > s.Cap+s.Unit {
				t.Fatalf("%d, %d, %v: %v", s.Unit, s.Cap, l, its)
			}
		}
		if left != 0 {
			t.Fatalf("%v: %v", l, segs)
		}
	}
	// And it may have nearly as many.
	if segs, _ := Of(with(900, 36450), list(in(1, 449)), 0); !slices.Equal(segs, list(gap(0, 36900, 1))) {
		t.Errorf("%v", segs)
	}
}

// P12.3: what a worker does hangs on that worker's events alone, in whatever order they are told.
func TestOthersAndOrder(t *testing.T) {
	r := rand.New(rand.NewSource(127))
	for range 6000 {
		s := shapes(r)
		l := some(r, s, 14)
		for worker := range 3 {
			segs, flags := Of(s, l, worker)
			alone := slices.DeleteFunc(slices.Clone(l), func(e api.Event) bool { return e.Worker != worker })
			more := slices.Clone(l)
			for _, e := range some(r, s, 14) {
				if e.Worker == worker {
					e.Worker = (worker + 1) % 3
				}
				more = append(more, e)
			}
			for _, other := range [][]api.Event{alone, more} {
				for range 3 {
					r.Shuffle(len(other), func(i, j int) { other[i], other[j] = other[j], other[i] })
					if a, b := Of(s, slices.Clip(other), worker); !slices.Equal(a, segs) || !slices.Equal(b, flags) {
						t.Fatalf("%v, %v: %v, %v and %v, %v", l, other, segs, flags, a, b)
					}
				}
			}
		}
	}
}

// beyond is what is told of seconds, and of events, that are farther from a time than so many seconds.
func beyond(l []api.Event, segs []api.Seg, flags []api.Flag, at, far int) ([]api.Seg, []api.Flag) {
	var parts []api.Seg
	for _, p := range segs {
		early, late := p, p
		early.To, late.From = min(p.To, at-far), max(p.From, at+far+1)
		for _, q := range list(early, late) {
			if q.From < q.To {
				parts = append(parts, q)
			}
		}
	}
	flags = slices.DeleteFunc(slices.Clone(flags), func(f api.Flag) bool {
		i := slices.IndexFunc(l, func(e api.Event) bool { return e.ID == f.ID })
		return max(l[i].At-at, at-l[i].At) <= far
	})
	return parts, flags
}

// P12.3: an event matters to nothing that is farther from it than Cap and Unit.
func TestFar(t *testing.T) {
	r := rand.New(rand.NewSource(128))
	for range 20000 {
		s := shapes(r)
		l := some(r, s, 20)
		if len(l) == 0 {
			continue
		}
		e := l[r.Intn(len(l))]
		without := slices.DeleteFunc(slices.Clone(l), func(o api.Event) bool { return o == e })
		segs, flags := Of(s, l, 0)
		segs, flags = beyond(l, segs, flags, e.At, s.Cap+s.Unit)
		fewer, less := Of(s, without, 0)
		fewer, less = beyond(l, fewer, less, e.At, s.Cap+s.Unit)
		if !slices.Equal(segs, fewer) || !slices.Equal(flags, less) {
			t.Fatalf("%d, %d, %v, without %v: %v, %v and %v, %v", s.Unit, s.Cap, l, e, segs, flags, fewer, less)
		}
	}
}

// member is whether a second is one of those of the parts of a kind; of all, if any is so.
func member(segs []api.Seg, kind int, any bool, t int) bool {
	return t >= 0 && t < maxTime && slices.ContainsFunc(segs, func(p api.Seg) bool {
		return (any || p.Kind == kind) && p.From <= t && t < p.To
	})
}

// spans is what the document says of Clock, and of Only: asked once between each two turns.
func spans(segs []api.Seg, kind int, any bool) []api.Span {
	turns := []int{0, maxTime}
	for _, p := range segs {
		turns = append(turns, max(0, min(p.From, maxTime)), max(0, min(p.To, maxTime)))
	}
	sort.Ints(turns)
	var l []api.Span
	for i, to := range turns[1:] {
		switch from, n := turns[i], len(l); {
		case from == to || !member(segs, kind, any, from):
		case n > 0 && l[n-1].To == from:
			l[n-1].To = to
		default:
			l = append(l, api.Span{From: from, To: to})
		}
	}
	return l
}

// kinds are all that there are, and some that there are not.
func kinds() []int { return []int{0, 1, 2, 3, 4, 5, 7, -1, -2, 256, least, greatest} }

// checkSeconds holds Clock and Only of parts against the document's words; the list stays as it was.
func checkSeconds(t *testing.T, name string, segs []api.Seg) {
	t.Helper()
	was := slices.Clone(segs[:cap(segs)])
	if got, want := Clock(segs), spans(segs, 0, true); !slices.Equal(got, want) {
		t.Fatalf("%s: Clock(%v) = %v, want %v", name, segs, got, want)
	}
	for _, kind := range kinds() {
		if got, want := Only(segs, kind), spans(segs, kind, false); !slices.Equal(got, want) {
			t.Fatalf("%s: Only(%v, %d) = %v, want %v", name, segs, kind, got, want)
		}
	}
	if !slices.Equal(segs[:cap(segs)], was) {
		t.Fatalf("%s: %v was changed: %v", name, was, segs[:cap(segs)])
	}
}

// between is spans, from and to by turns.
func between(l ...int) []api.Span {
	var out []api.Span
	for i := 0; i+1 < len(l); i += 2 {
		out = append(out, api.Span{From: l[i], To: l[i+1]})
	}
	return out
}

// P12.2: seconds of parts, of all and of each kind.
func TestSeconds(t *testing.T) {
	for _, c := range []struct {
		name  string
		segs  []api.Seg
		clock []api.Span
		only  [4][]api.Span
	}{
		{"none", nil, nil, [4][]api.Span{}},
		{"an empty list", []api.Seg{}, nil, [4][]api.Span{}},
		{"one of each", list(gap(1, 2, 1), direct(4, 6, 2), indirect(8, 11, 3, 5), away(20, 30, 4)), between(1, 2, 4, 6, 8, 11, 20, 30),
			[4][]api.Span{between(1, 2), between(4, 6), between(8, 11), between(20, 30)}},
		{"a session", list(gap(100, 150, 1), direct(150, 160, 2), indirect(160, 170, 3, 7), away(170, 180, 4), gap(180, 200, 5)), between(100, 200),
			[4][]api.Span{between(100, 150, 180, 200), between(150, 160), between(160, 170), between(170, 180)}},
		{"touching, of one kind", list(direct(5, 9, 1), direct(9, 12, 2), direct(1, 5, 3)), between(1, 12), [4][]api.Span{nil, between(1, 12), nil, nil}},
		{"touching, of others", list(direct(5, 9, 1), away(9, 12, 2), direct(12, 15, 3)), between(5, 15), [4][]api.Span{nil, between(5, 9, 12, 15), nil, between(9, 12)}},
		{"overlapping", list(direct(5, 9, 1), away(7, 12, 2), direct(8, 15, 3), gap(1, 6, 4)), between(1, 15), [4][]api.Span{between(1, 6), between(5, 15), nil, between(7, 12)}},
		{"one within another one", list(direct(5, 20, 1), direct(7, 12, 2), away(8, 9, 3)), between(5, 20), [4][]api.Span{nil, between(5, 20), nil, between(8, 9)}},
		{"the same twice", list(direct(5, 20, 1), direct(5, 20, 1), indirect(5, 20, 1, 9)), between(5, 20), [4][]api.Span{nil, between(5, 20), between(5, 20), nil}},
		{"empty, and the wrong way round", list(direct(5, 5, 1), direct(9, 3, 1), away(maxTime, maxTime, 2), gap(greatest, least, 3)), nil, [4][]api.Span{}},
		{"in no order", list(away(50, 60, 1), direct(30, 40, 2), away(10, 20, 3), direct(70, 80, 4)), between(10, 20, 30, 40, 50, 60, 70, 80),
			[4][]api.Span{nil, between(30, 40, 70, 80), nil, between(10, 20, 50, 60)}},
		{"beyond both ends", list(direct(-5, 3, 1), away(maxTime-3, maxTime+5, 2), gap(-9, 0, 3), gap(maxTime, greatest, 4)), between(0, 3, maxTime-3, maxTime),
			[4][]api.Span{nil, between(0, 3), nil, between(maxTime-3, maxTime)}},
		{"all, and more", list(indirect(least, greatest, 1, 3), gap(-1, 1, 2)), between(0, maxTime), [4][]api.Span{between(0, 1), nil, between(0, maxTime), nil}},
		{"kinds that there are not", list(api.Seg{From: 1, To: 4, Kind: 4}, api.Seg{From: 3, To: 8, Kind: -1}, api.Seg{From: 8, To: 9, Kind: greatest}, direct(20, 21, 5)), between(1, 9, 20, 21),
			[4][]api.Span{nil, between(20, 21), nil, nil}},
		{"numbers and codes of all kinds", list(api.Seg{From: 1, To: 4, Kind: 1, ID: least, Code: greatest}, api.Seg{From: 4, To: 5, Kind: 1, ID: -1, Code: -1}), between(1, 5), [4][]api.Span{nil, between(1, 5), nil, nil}},
	} {
		if got := Clock(c.segs); !slices.Equal(got, c.clock) {
			t.Errorf("%s: Clock = %v, want %v", c.name, got, c.clock)
		}
		for kind, want := range c.only {
			if got := Only(c.segs, kind); !slices.Equal(got, want) {
				t.Errorf("%s: Only of %d = %v, want %v", c.name, kind, got, want)
			}
		}
		checkSeconds(t, c.name, c.segs)
	}
	odd := list(api.Seg{From: 1, To: 4, Kind: 4}, api.Seg{From: 3, To: 8, Kind: -1}, api.Seg{From: 8, To: 9, Kind: greatest})
	for kind, want := range map[int][]api.Span{4: between(1, 4), -1: between(3, 8), greatest: between(8, 9), 5: nil, 7: nil, least: nil} {
		if got := Only(odd, kind); !slices.Equal(got, want) {
			t.Errorf("Only of %d = %v", kind, got)
		}
	}
}

// P12.2, R1: parts by chance, of all numbers.
func TestSecondsSome(t *testing.T) {
	r := rand.New(rand.NewSource(129))
	bound := func() int {
		if r.Intn(5) == 0 {
			return []int{least, least + 1, -1, 0, 1, maxTime - 1, maxTime, maxTime + 1, greatest - 1, greatest, r.Int(), -r.Int()}[r.Intn(12)]
		}
		return r.Intn(60) - 5
	}
	for i := range 20000 {
		var segs []api.Seg
		for range r.Intn(9) {
			segs = append(segs, api.Seg{From: bound(), To: bound(), Kind: kinds()[r.Intn(len(kinds()))], ID: bound(), Code: bound()})
		}
		checkSeconds(t, strconv.Itoa(i), segs)
	}
}

// P12.2, P12.3: the seconds of a worker's parts are as many as the parts have, and each is of one kind.
func TestSecondsOfParts(t *testing.T) {
	r := rand.New(rand.NewSource(1210))
	count := func(l []api.Span) int {
		n := 0
		for _, s := range l {
			n += s.To - s.From
		}
		return n
	}
	for range 6000 {
		s := shapes(r)
		segs, _ := Of(s, some(r, s, 20), 0)
		size, byKind := 0, [4]int{}
		for _, p := range segs {
			size += p.To - p.From
			byKind[p.Kind] += p.To - p.From
		}
		if got := count(Clock(segs)); got != size {
			t.Fatalf("%v: %d", segs, got)
		}
		for kind, n := range byKind {
			if got := count(Only(segs, kind)); got != n {
				t.Fatalf("%v: %d of %d", segs, got, kind)
			}
		}
	}
}

// R1: numbers of all kinds in hand-made events and setups: each call ends, as the document says.
func TestHandMade(t *testing.T) {
	r := rand.New(rand.NewSource(1211))
	wild := func() int {
		return []int{0, 0, 0, 1, 2, 3, 4, 5, 6, 7, 100, 160, -1, lastTime, lastTime + 1, maxTime, least, greatest, 1 << 62, r.Int(), -r.Int()}[r.Intn(21)]
	}
	for i := range 20000 {
		s := with(60, 60)
		switch r.Intn(4) {
		case 0:
			s.Unit = wild()
		case 1:
			s.Cap = wild()
		case 2:
			s.Places, s.Rates = wild(), []int{wild(), wild()}[:r.Intn(3)]
		}
		var l []api.Event
		for range r.Intn(8) {
			e := api.Event{ID: wild(), Worker: wild() % 3, At: wild(), Kind: 1 + r.Intn(7)}
			if r.Intn(4) == 0 {
				e = api.Event{ID: wild(), Worker: wild(), At: wild(), Kind: wild(), From: wild(), To: wild(), Element: wild(), Units: wild(), Class: wild(), Gear: wild(), Code: wild()}
			}
			l = append(l, e)
		}
		check(t, strconv.Itoa(i), s, l, wild())
		check(t, strconv.Itoa(i), s, l, 0)
	}
}

// separate holds a call against its answers being in memory of their own, apart from one another's, and from all that was handed in.
func separate[A, T comparable](t *testing.T, handed []A, otherHanded A, call func() []T, other T) {
	t.Helper()
	was := slices.Clone(handed)
	first, second := call(), call()
	want := slices.Clone(second)
	// Whoever has an answer may change it, and all room behind it.
	for i := range first[:cap(first)] {
		first[:cap(first)][i] = other
	}
	if !slices.Equal(second, want) {
		t.Errorf("%v: two answers share memory: %v", was, second)
	}
	if !slices.Equal(handed, was) {
		t.Errorf("%v: what was handed in was changed: %v", was, handed)
	}
	// And whoever handed a list in may change it.
	for i := range handed {
		handed[i] = otherHanded
	}
	if !slices.Equal(second, want) {
		t.Errorf("%v: what was handed in is kept: %v", was, second)
	}
	copy(handed, was)
	if again := call(); !slices.Equal(again, want) {
		t.Errorf("%v: asked again: %v, want %v", was, again, want)
	}
}

// R3: what is handed in is neither changed nor kept, its spare room included; answers are in memory of their own.
func TestMemory(t *testing.T) {
	for _, c := range all() {
		s := with(c.unit, c.longest)
		// In the spare room there stands what would change the answers.
		events := append(slices.Clone(c.l), in(50, 0), task(51, 150), in(52, 300), out(53, 400), of(1, in(54, 5)), fault(55, 6))
		l := events[:len(c.l)]
		check(t, c.name, s, l, 0)
		separate(t, events, in(60, 7), func() []api.Seg { segs, _ := Of(s, l, 0); return segs }, direct(-9, 99, 9))
		separate(t, events, in(60, 7), func() []api.Flag { _, flags := Of(s, l, 0); return flags }, outside(-9))
		parts := append(slices.Clone(c.segs), direct(0, 7, 1), away(3, maxTime, 2), gap(-5, 9, 3))
		segs := parts[:len(c.segs)]
		checkSeconds(t, c.name, segs)
		separate(t, parts, away(0, 9, 7), func() []api.Span { return Clock(segs) }, api.Span{From: -9, To: 9})
		separate(t, parts, away(0, 9, 7), func() []api.Span { return Only(segs, api.SDirect) }, api.Span{From: -9, To: 9})
	}
}

// R3: a setup that is handed in stays as it was, and is not kept.
func TestSetupStays(t *testing.T) {
	s := with(900, 36000)
	s.Rates = append(s.Rates, 4, 5, 6)[:3]
	s.Ways = list(api.Way{A: 0, B: 1, Meters: 5}, api.Way{A: 1, B: 0, Meters: 6})[:1]
	l := list(in(1, 400), task(2, 1000), out(3, 2000))
	Of(s, l, 0)
	if !slices.Equal(s.Rates[:6], []int{1, 2, 3, 4, 5, 6}) || !slices.Equal(s.Ways[:2], list(api.Way{A: 0, B: 1, Meters: 5}, api.Way{A: 1, B: 0, Meters: 6})) ||
		!slices.Equal(s.Elements, list(api.Element{Fixed: one, Unit: one})) || !slices.Equal(s.Classes, list(one)) || !slices.Equal(s.Gears, list(one)) {
		t.Errorf("%v", s)
	}
	s.Unit = 1
	if segs, _ := Of(s, l, 0); !slices.Equal(segs, list(gap(400, 1000, 1), direct(1000, 2000, 2))) {
		t.Errorf("%v", segs)
	}
}

// P12.1: a call tells nothing that another one was told.
func TestCallsApart(t *testing.T) {
	s := with(1, 600)
	Of(s, list(in(1, 100)), 0)
	if segs, flags := Of(s, list(out(2, 200)), 0); len(segs) != 0 || !slices.Equal(flags, list(outside(2))) {
		t.Errorf("%v, %v", segs, flags)
	}
	if segs, flags := Of(s, nil, 0); len(segs) != 0 || len(flags) != 0 {
		t.Errorf("%v, %v", segs, flags)
	}
}

// P12.1, P12.2: long lists, of one session and of many, in a time that does not rise with their square.
func TestMany(t *testing.T) {
	const many = 100000
	s := with(1, 57600)
	long := list(in(0, 0))
	for i := many - 1; i >= 1; i-- {
		long = append(long, code(i, 1+i%50000, i%100))
	}
	segs, flags := Of(s, append(long, out(many, 57600)), 0)
	if len(segs) != 50001 || len(flags) != 0 || len(Clock(segs)) != 1 {
		t.Errorf("one session: %d parts, %v", len(segs), flags)
	}
	var short []api.Event
	for i := many - 1; i >= 0; i-- {
		short = append(short, in(i, 300*i), task(i, 300*i+50), out(i, 300*i+100), out(i, 300*i+101))
	}
	segs, flags = Of(s, short, 0)
	if len(segs) != 2*many || len(flags) != many || len(Clock(segs)) != many || len(Only(segs, api.SDirect)) != many || len(Only(segs, api.SBreak)) != 0 {
		t.Errorf("many sessions: %d parts, %d flags", len(segs), len(flags))
	}
}
