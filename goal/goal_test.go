package goal

import (
	"math"
	"math/big"
	"math/rand"
	"slices"
	"strconv"
	"testing"

	"lumper/api"
)

// most is the greatest number of a ratio, as layer 2's chapter says it.
const most = 1<<31 - 1

// frac is n through d, whatever these are.
func frac(n, d int) api.Ratio { return api.Ratio{Num: n, Den: d} }

// to is a way.
func to(a, b, meters int) api.Way { return api.Way{A: a, B: b, Meters: meters} }

// whole is a setup that has some of all, all of its numbers unlike those beside them. Its places 0 and 2 are joined, and 1, 4 and 3.
func whole() api.Setup {
	return api.Setup{
		Places: 5, Ways: []api.Way{to(0, 2, 300), to(4, 1, 7), to(3, 4, 10000)}, Pace: frac(5, 7),
		Elements: []api.Element{{Fixed: frac(11, 2), Unit: frac(3, 8)}, {Fixed: frac(0, 1), Unit: frac(70000, 3)}, {Fixed: frac(9, 5), Unit: frac(0, 1)}},
		Classes:  []api.Ratio{frac(9, 4), frac(13, 6), frac(1, 1)}, Gears: []api.Ratio{frac(17, 12), frac(2, 15), frac(0, 1)}, Allow: 10,
		Unit: 900, Cap: 36000, PaidBreak: 1200, AutoAfter: 21600, AutoBreak: 1800, DayReg: 28800, DayOver: 43200, WeekReg: 144000,
		NightFrom: 79200, NightTo: 21601, Rates: []int{1500, 2000, 0}, Diff: 75, Least: 725, Fault: 60,
		Tiers: []api.Tier{{Least: 3, Bonus: 40}, {Least: 100, Bonus: 150}},
	}
}

// task is an event of whole, that may be.
func task() api.Event {
	return api.Event{ID: 7, Worker: 1, At: 5000, Kind: 3, From: 0, To: 2, Element: 0, Units: 8, Class: 0, Gear: 0}
}

// worth is all that a goal is reckoned from.
type worth struct {
	meters                         int
	pace, gear, fixed, unit, class api.Ratio
	units, allow                   int
}

// told is a setup, and a task in it, of that worth; of 0 meters the task stays at its place.
func (w worth) told() (api.Setup, api.Event) {
	s := api.Setup{Places: 2, Pace: w.pace, Elements: []api.Element{{Fixed: w.fixed, Unit: w.unit}},
		Classes: []api.Ratio{w.class}, Gears: []api.Ratio{w.gear}, Allow: w.allow, Unit: 1, Cap: 60, Rates: []int{0}}
	e := api.Event{Kind: 3, Units: w.units}
	if w.meters > 0 {
		s.Ways, e.To = []api.Way{to(0, 1, w.meters)}, 1
	}
	return s, e
}

// ordinary is the worth of the chapter's example.
func ordinary() worth {
	return worth{meters: 300, pace: frac(1, 2), gear: frac(1, 1), fixed: frac(5, 1), unit: frac(3, 2), class: frac(1, 1), units: 40, allow: 10}
}

// apart is the least length of all walks from one place to another one, by how many ways they have; -1, if there is none.
func apart(s api.Setup, from, at int) int {
	least := slices.Repeat([]int{-1}, s.Places)
	least[from] = 0
	for range s.Places {
		for _, w := range append(slices.Clone(s.Ways), s.Ways...) {
			for _, l := range [][2]int{{w.A, w.B}, {w.B, w.A}} {
				if a, b := least[l[0]], least[l[1]]; a >= 0 && (b < 0 || a+w.Meters < b) {
					least[l[1]] = a + w.Meters
				}
			}
		}
	}
	return least[at]
}

// isTask tells whether e is a task that may be in s, a setup that may be.
func isTask(s api.Setup, e api.Event) bool {
	below := func(n, size int) bool { return n >= 0 && n < size }
	return e.Kind == 3 && below(e.ID, 100001) && below(e.Worker, len(s.Rates)) && below(e.At, 31449600) &&
		below(e.From, s.Places) && below(e.To, s.Places) && below(e.Element, len(s.Elements)) && below(e.Units, 10001) &&
		below(e.Class, len(s.Classes)) && below(e.Gear, len(s.Gears)) && e.Code == 0
}

// steps are what the seven steps of the reckoning make, exactly, as if no number were too great.
func steps(s api.Setup, e api.Event, meters int) []*big.Rat {
	exact := func(r api.Ratio) *big.Rat { return big.NewRat(int64(r.Num), int64(r.Den)) }
	times := func(a, b *big.Rat) *big.Rat { return new(big.Rat).Mul(a, b) }
	plus := func(a, b *big.Rat) *big.Rat { return new(big.Rat).Add(a, b) }
	first := times(big.NewRat(int64(meters), 1), exact(s.Pace))
	second := times(first, exact(s.Gears[e.Gear]))
	third := times(exact(s.Elements[e.Element].Unit), big.NewRat(int64(e.Units), 1))
	fourth := plus(exact(s.Elements[e.Element].Fixed), third)
	fifth := times(fourth, exact(s.Classes[e.Class]))
	sixth := plus(second, fifth)
	seventh := times(sixth, big.NewRat(int64(100+s.Allow), 100))
	return []*big.Rat{first, second, third, fourth, fifth, sixth, seventh}
}

// over are the steps, from 1 on, of which there is no ratio.
func over(l []*big.Rat) []int {
	var none []int
	greatest := big.NewInt(most)
	for i, x := range l {
		if x.Num().CmpAbs(greatest) > 0 || x.Denom().Cmp(greatest) > 0 {
			none = append(none, i+1)
		}
	}
	return none
}

// reckoned is what the document says of a task in a setup that may be.
func reckoned(s api.Setup, e api.Event) (api.Ratio, api.Errno) {
	if !isTask(s, e) || apart(s, e.From, e.To) < 0 {
		return api.Ratio{}, 100
	}
	l := steps(s, e, apart(s, e.From, e.To))
	if len(over(l)) > 0 {
		return api.Ratio{}, 10
	}
	return frac(int(l[6].Num().Int64()), int(l[6].Denom().Int64())), 0
}

// is holds Of against an answer.
func is(t *testing.T, name string, s api.Setup, e api.Event, want api.Ratio, err api.Errno) {
	t.Helper()
	if r, got := Of(s, e); r != want || got != err {
		t.Fatalf("%s: Of(%+v, %+v) = %v, %d, want %v, %d", name, s, e, r, got, want, err)
	}
}

// none holds Of against there being no such task.
func none(t *testing.T, name string, s api.Setup, e api.Event) {
	t.Helper()
	is(t, name, s, e, api.Ratio{}, 100)
}

// held holds Of against the document's words, of a setup that may be.
func held(t *testing.T, name string, s api.Setup, e api.Event) {
	t.Helper()
	want, err := reckoned(s, e)
	is(t, name, s, e, want, err)
}

// reaches holds Of against the document's words, which must have a goal.
func reaches(t *testing.T, name string, s api.Setup, e api.Event) {
	t.Helper()
	if _, err := reckoned(s, e); err != 0 {
		t.Fatalf("%s: the tests' own words have no goal of %+v, %+v: %d", name, s, e, err)
	}
	held(t, name, s, e)
}

// P10.1: the chapter's example.
func TestExample(t *testing.T) {
	s, e := ordinary().told()
	is(t, "example", s, e, frac(473, 2), api.OK)
	if r, err := Of(s, e); r != (api.Ratio{Num: 473, Den: 2}) || err != api.OK {
		t.Errorf("%v, %v", r, err)
	}
}

// P10.1: goals that were reckoned by hand, of ordinary tasks.
func TestKnown(t *testing.T) {
	at := func(from, to, element, units, class, gear int) api.Event {
		return api.Event{Kind: 3, From: from, To: to, Element: element, Units: units, Class: class, Gear: gear}
	}
	for i, c := range []struct {
		e    api.Event
		want api.Ratio
	}{
		// 300 * 5/7 * 17/12 = 2125/7; (11/2 + 8 * 3/8) * 9/4 = 153/8; (2125/7 + 153/8) * 11/10
		{at(0, 2, 0, 8, 0, 0), frac(198781, 560)},
		{at(2, 0, 0, 8, 0, 0), frac(198781, 560)},
		// 300 * 5/7 * 2/15 = 200/7
		{at(0, 2, 0, 8, 0, 1), frac(29381, 560)},
		{at(0, 2, 0, 8, 0, 2), frac(1683, 80)},
		{at(0, 0, 0, 8, 0, 0), frac(1683, 80)},
		// 17/2 * 13/6
		{at(0, 0, 0, 8, 1, 0), frac(2431, 120)},
		{at(0, 0, 0, 8, 2, 0), frac(187, 20)},
		{at(0, 0, 0, 0, 2, 0), frac(121, 20)},
		{at(0, 0, 1, 0, 0, 0), frac(0, 1)},
		{at(1, 1, 1, 3, 2, 1), frac(77000, 1)},
		{at(3, 3, 2, 10000, 2, 1), frac(99, 50)},
		{at(0, 2, 2, 10000, 2, 2), frac(99, 50)},
		// 10007 * 5/7 * 2/15 = 20014/21
		{at(1, 3, 1, 0, 0, 1), frac(110077, 105)},
		{at(3, 1, 1, 0, 0, 1), frac(110077, 105)},
	} {
		is(t, strconv.Itoa(i), whole(), c.e, c.want, api.OK)
		reaches(t, strconv.Itoa(i), whole(), c.e)
	}
	none(t, "far", whole(), at(0, 1, 0, 8, 0, 0))
	none(t, "far", whole(), at(4, 2, 0, 8, 0, 0))
}

// P10.1: each element, class and gear, between any two places: those that the task names tell, and no others.
func TestNamed(t *testing.T) {
	s := whole()
	for n := range 5 * 5 * 27 {
		e := task()
		e.From, e.To, e.Element, e.Class, e.Gear = n%5, n/5%5, n/25%3, n/75%3, n/225
		held(t, "named", s, e)
		other := whole()
		for i := range 3 {
			if i != e.Element {
				other.Elements[i] = api.Element{Fixed: frac(77, 3), Unit: frac(most, 2)}
			}
			if i != e.Class {
				other.Classes[i] = frac(most, 5)
			}
			if i != e.Gear {
				other.Gears[i] = frac(most, 7)
			}
		}
		want, err := Of(s, e)
		is(t, "with others", other, e, want, err)
	}
}

// P10.1: an element's numbers for once and for each unit are not one another's.
func TestFixedAndUnit(t *testing.T) {
	for _, units := range []int{0, 1, 2, 10000} {
		w := worth{pace: frac(1, 1), gear: frac(1, 1), fixed: frac(7, 1), unit: frac(3, 1), class: frac(1, 1), units: units}
		s, e := w.told()
		is(t, "fixed and unit", s, e, frac(7+3*units, 1), api.OK)
	}
}

// P10.1: of all kinds but one there is no goal, whatever numbers stand in the event; its own ones, or none, too.
func TestKinds(t *testing.T) {
	s := whole()
	for _, kind := range []int{api.EIn, api.EOut, api.ECode, api.EBreak, api.EDone, api.EFault, 1, 2, 4, 5, 6, 7, 0, 8, -1, -3, 99, 3 + 1<<32, math.MaxInt, math.MinInt} {
		name := "kind " + strconv.Itoa(kind)
		none(t, name, s, api.Event{Kind: kind})
		none(t, name, s, api.Event{ID: 7, Worker: 1, At: 5000, Kind: kind})
		none(t, name, s, api.Event{ID: 7, Worker: 1, At: 5000, Kind: kind, Code: 5})
		e := task()
		e.Kind = kind
		none(t, name, s, e)
	}
	none(t, "nothing", s, api.Event{})
	is(t, "a task", s, api.Event{Kind: api.ETask}, frac(1089, 80), api.OK)
}

// number is one of an event's numbers.
type number struct {
	name string
	at   func(e *api.Event) *int
	most int
}

// numbers are all of an event's numbers that have bounds, and the greatest ones that they may be in whole.
func numbers() []number {
	return []number{
		{"ID", func(e *api.Event) *int { return &e.ID }, 100000},
		{"Worker", func(e *api.Event) *int { return &e.Worker }, 2},
		{"At", func(e *api.Event) *int { return &e.At }, 31449599},
		{"From", func(e *api.Event) *int { e.To = 2; return &e.From }, 4},
		{"To", func(e *api.Event) *int { e.From = 3; return &e.To }, 4},
		{"Element", func(e *api.Event) *int { return &e.Element }, 2},
		{"Units", func(e *api.Event) *int { return &e.Units }, 10000},
		{"Class", func(e *api.Event) *int { return &e.Class }, 2},
		{"Gear", func(e *api.Event) *int { return &e.Gear }, 2},
		{"Code", func(e *api.Event) *int { return &e.Code }, 0},
	}
}

// P10.1: events that may not be in the setup, by each of their numbers; and those at the bounds, which may.
func TestEventMayNotBe(t *testing.T) {
	s := whole()
	for _, c := range numbers() {
		with := func(n int) api.Event {
			e := task()
			*c.at(&e) = n
			return e
		}
		for _, n := range []int{0, c.most / 2, c.most} {
			held(t, c.name, s, with(n))
		}
		for _, n := range []int{-1, -c.most - 1, c.most + 1, c.most + 2, 256 + c.most, 1 << 31, 1 << 32, 1<<32 + c.most, 1 << 62, math.MaxInt, math.MinInt, math.MinInt + 1} {
			none(t, c.name+" "+strconv.Itoa(n), s, with(n))
		}
	}
	for _, code := range []int{1, 99, 100} {
		e := task()
		e.Code = code
		none(t, "a task with a code", s, e)
	}
}

// P10.1: ID, Worker and At tell nothing, so long as the event may be.
func TestWhoAndWhen(t *testing.T) {
	s := whole()
	want, err := Of(s, task())
	for _, c := range numbers()[:3] {
		for _, n := range []int{0, 1, c.most - 1, c.most} {
			e := task()
			*c.at(&e) = n
			is(t, c.name, s, e, want, err)
		}
	}
}

// bound is a number of a setup, and from what to what it may be.
type bound struct {
	name      string
	at        func(s *api.Setup) *int
	low, high int
}

// bounds are those of all numbers of whole, but of ratios.
func bounds() []bound {
	return []bound{
		{"Places", func(s *api.Setup) *int { return &s.Places }, 5, 16},
		{"A", func(s *api.Setup) *int { s.Ways[0].B = 4; return &s.Ways[0].A }, 0, 3},
		{"B", func(s *api.Setup) *int { s.Ways[2].A = 0; return &s.Ways[2].B }, 1, 4},
		{"first Meters", func(s *api.Setup) *int { return &s.Ways[0].Meters }, 1, 10000},
		{"last Meters", func(s *api.Setup) *int { return &s.Ways[2].Meters }, 1, 10000},
		{"Allow", func(s *api.Setup) *int { return &s.Allow }, 0, 100},
		{"Unit", func(s *api.Setup) *int { return &s.Unit }, 1, 3600},
		{"Cap", func(s *api.Setup) *int { return &s.Cap }, 60, 57600},
		{"PaidBreak", func(s *api.Setup) *int { return &s.PaidBreak }, 0, 86400},
		{"AutoAfter", func(s *api.Setup) *int { return &s.AutoAfter }, 0, 86400},
		{"AutoBreak", func(s *api.Setup) *int { return &s.AutoBreak }, 0, 86400},
		{"DayReg", func(s *api.Setup) *int { return &s.DayReg }, 0, 43200},
		{"DayOver", func(s *api.Setup) *int { return &s.DayOver }, 28800, 86400},
		{"WeekReg", func(s *api.Setup) *int { return &s.WeekReg }, 0, 604800},
		{"NightFrom", func(s *api.Setup) *int { return &s.NightFrom }, 0, 86400},
		{"NightTo", func(s *api.Setup) *int { return &s.NightTo }, 0, 86400},
		{"Rate", func(s *api.Setup) *int { return &s.Rates[2] }, 0, 100000},
		{"Diff", func(s *api.Setup) *int { return &s.Diff }, 0, 100000},
		{"Least", func(s *api.Setup) *int { return &s.Least }, 0, 100000},
		{"Fault", func(s *api.Setup) *int { return &s.Fault }, 0, 86400},
		{"Bonus", func(s *api.Setup) *int { return &s.Tiers[1].Bonus }, 0, 100000},
		{"first tier", func(s *api.Setup) *int { return &s.Tiers[0].Least }, 0, 99},
		{"last tier", func(s *api.Setup) *int { return &s.Tiers[1].Least }, 4, 1000},
	}
}

// stay is a task that asks no way of a setup.
func stay() api.Event { return api.Event{Kind: 3, From: 1, To: 1, Units: 2} }

// P10.1: in a setup one of whose numbers may not be there is no goal of any task; at its bounds there is.
func TestSetupNumbers(t *testing.T) {
	for _, c := range bounds() {
		with := func(n int) api.Setup {
			s := whole()
			*c.at(&s) = n
			return s
		}
		for _, n := range []int{c.low, c.low + 1, c.high - 1, c.high} {
			held(t, c.name, with(n), task())
			reaches(t, c.name, with(n), stay())
		}
		for _, n := range []int{c.low - 1, c.high + 1, -1, -c.high - 1, 1 << 31, 1 << 32, 1<<32 + c.low, math.MaxInt, math.MinInt} {
			none(t, c.name+" "+strconv.Itoa(n), with(n), task())
			none(t, c.name+" "+strconv.Itoa(n), with(n), stay())
		}
	}
	s := whole()
	s.Ways[1].B = s.Ways[1].A
	none(t, "a way to its own place", s, task())
	s = whole()
	s.Tiers[1].Least = s.Tiers[0].Least
	none(t, "tiers that do not rise", s, task())
	none(t, "nothing at all", api.Setup{}, api.Event{Kind: 3})
	none(t, "nothing at all", api.Setup{}, api.Event{})
}

// spots are where ratios stand in a setup: in those parts that the first task uses, and in those that it does not.
func spots() []func(s *api.Setup) *api.Ratio {
	return []func(s *api.Setup) *api.Ratio{
		func(s *api.Setup) *api.Ratio { return &s.Pace },
		func(s *api.Setup) *api.Ratio { return &s.Gears[0] },
		func(s *api.Setup) *api.Ratio { return &s.Elements[0].Fixed },
		func(s *api.Setup) *api.Ratio { return &s.Elements[0].Unit },
		func(s *api.Setup) *api.Ratio { return &s.Classes[0] },
		func(s *api.Setup) *api.Ratio { return &s.Gears[2] },
		func(s *api.Setup) *api.Ratio { return &s.Elements[2].Fixed },
		func(s *api.Setup) *api.Ratio { return &s.Elements[2].Unit },
		func(s *api.Setup) *api.Ratio { return &s.Classes[2] },
	}
}

// P10.1: ratios that may not be, or are below 0, wherever one stands, whether the task uses it or not.
func TestSetupRatios(t *testing.T) {
	wrong := []api.Ratio{{}, frac(1, 0), frac(0, 2), frac(2, 4), frac(2, 2), frac(-1, 2), frac(-1, 1), frac(1, -2), frac(-1, -2),
		frac(most+1, 1), frac(1, most+1), frac(-most, 1), frac(math.MaxInt, math.MaxInt), frac(math.MinInt, 1), frac(1, math.MinInt)}
	for i, spot := range spots() {
		for _, r := range wrong {
			s := whole()
			*spot(&s) = r
			none(t, "ratio "+strconv.Itoa(i), s, task())
			none(t, "ratio "+strconv.Itoa(i), s, stay())
		}
		for _, r := range []api.Ratio{frac(0, 1), frac(1, 1), frac(1, 2), frac(most, 1), frac(1, most), frac(most, most-1)} {
			s := whole()
			*spot(&s) = r
			held(t, "ratio "+strconv.Itoa(i), s, task())
			held(t, "ratio "+strconv.Itoa(i), s, stay())
		}
	}
}

// P10.1: lists that are longer than they may be; as long as they may be, the last element counts, and one behind it is not there.
func TestSetupLists(t *testing.T) {
	tiers := func(n int) []api.Tier {
		l := make([]api.Tier, n)
		for i := range l {
			l[i].Least = i
		}
		return l
	}
	lists := map[string]struct {
		most int
		set  func(s *api.Setup, n int)
		at   func(e *api.Event) *int
	}{
		"Ways":     {64, func(s *api.Setup, n int) { s.Ways = slices.Repeat([]api.Way{to(0, 2, 9)}, n) }, nil},
		"Elements": {8, func(s *api.Setup, n int) { s.Elements = slices.Repeat(s.Elements[1:2], n) }, func(e *api.Event) *int { return &e.Element }},
		"Classes":  {8, func(s *api.Setup, n int) { s.Classes = slices.Repeat(s.Classes[1:2], n) }, func(e *api.Event) *int { return &e.Class }},
		"Gears":    {8, func(s *api.Setup, n int) { s.Gears = slices.Repeat(s.Gears[1:2], n) }, func(e *api.Event) *int { return &e.Gear }},
		"Rates":    {16, func(s *api.Setup, n int) { s.Rates = slices.Repeat([]int{5}, n) }, func(e *api.Event) *int { return &e.Worker }},
		"Tiers":    {8, func(s *api.Setup, n int) { s.Tiers = tiers(n) }, nil},
	}
	for name, l := range lists {
		for _, n := range []int{0, 1, 2, l.most, l.most + 1, l.most + 2, l.most + 256, 1 << 16} {
			s := whole()
			l.set(&s, n)
			if n > l.most {
				none(t, name+" "+strconv.Itoa(n), s, task())
				none(t, name+" "+strconv.Itoa(n), s, stay())
				continue
			}
			held(t, name+" "+strconv.Itoa(n), s, task())
			for i := range n {
				if e := stay(); l.at != nil {
					*l.at(&e) = i
					reaches(t, name, s, e)
				}
			}
			if e := stay(); l.at != nil {
				*l.at(&e) = n
				none(t, name+" behind the last", s, e)
			}
		}
	}
	// Without rates a setup may not be, and without the others no task may.
	s := whole()
	s.Rates = nil
	none(t, "no rates", s, stay())
	none(t, "no rates", s, api.Event{Kind: 3, Worker: -1})
}

// plain is a setup of places and ways in which a meter takes a second, and nothing takes more.
func plain(places int, l ...api.Way) api.Setup {
	return api.Setup{Places: places, Ways: l, Pace: frac(1, 1), Elements: []api.Element{{Fixed: frac(0, 1), Unit: frac(0, 1)}},
		Classes: []api.Ratio{frac(0, 1)}, Gears: []api.Ratio{frac(1, 1)}, Unit: 1, Cap: 60, Rates: []int{0}}
}

// P10.1: From and To the same place, joined by one way, by many, and not joined.
func TestPlaces(t *testing.T) {
	at := func(from, to int) api.Event { return api.Event{Kind: 3, From: from, To: to} }
	for _, places := range []int{1, 2, 16} {
		for a := range places {
			is(t, "the same", plain(places), at(a, a), frac(0, 1), api.OK)
			for b := range places {
				if a == b {
					continue
				}
				none(t, "not joined", plain(places), at(a, b))
				for _, meters := range []int{1, 300, 10000} {
					is(t, "one way", plain(places, to(a, b, meters)), at(a, b), frac(meters, 1), api.OK)
					is(t, "one way", plain(places, to(b, a, meters)), at(a, b), frac(meters, 1), api.OK)
					is(t, "two ways", plain(places, to(b, a, meters), to(a, b, 7000)), at(a, b), frac(min(meters, 7000), 1), api.OK)
				}
			}
		}
		none(t, "no such place", plain(places), at(places, places))
		none(t, "no such place", plain(places), at(0, places))
		none(t, "no such place", plain(places), at(-1, -1))
	}
	s := plain(5, to(0, 1, 5), to(2, 1, 4), to(0, 2, 10), to(3, 4, 1))
	is(t, "by a third place", s, at(0, 2), frac(9, 1), api.OK)
	is(t, "by a third place", s, at(2, 0), frac(9, 1), api.OK)
	none(t, "another island", s, at(0, 3))
	none(t, "another island", s, at(4, 2))
	var chain []api.Way
	for a := range 15 {
		chain = append(chain, to(a, a+1, 10000))
	}
	for a := range 16 {
		is(t, "by all", plain(16, chain...), at(0, a), frac(10000*a, 1), api.OK)
		is(t, "by all", plain(16, chain...), at(a, 15), frac(10000*(15-a), 1), api.OK)
	}
}

// P10.1: what is Far is no task, however great the rest is; nor is one in a setup, or of an event, that may not be.
func TestTaskAheadOfOver(t *testing.T) {
	great := worth{meters: 10000, pace: frac(most, 1), gear: frac(most, 1), fixed: frac(most, 1), unit: frac(most, 1), class: frac(most, 1), units: 10000, allow: 100}
	s, e := great.told()
	is(t, "great", s, e, api.Ratio{}, 10)
	s.Ways = nil
	none(t, "far", s, e)
	s, e = great.told()
	s.Cap = 59
	none(t, "a setup that may not be", s, e)
	s, e = great.told()
	e.Units = 10001
	none(t, "an event that may not be", s, e)
	s, e = great.told()
	e = api.Event{Kind: 1}
	none(t, "an event that is none of a task", s, e)
}

// P10.1: units, from the least to the greatest ones.
func TestUnits(t *testing.T) {
	for _, units := range []int{0, 1, 2, 3, 255, 256, 9999, 10000} {
		w := ordinary()
		w.units = units
		s, e := w.told()
		// (150 + 5 + 3/2 * units) * 11/10
		want := big.NewRat(int64(11*(310+3*units)), 20)
		is(t, "units", s, e, frac(int(want.Num().Int64()), int(want.Denom().Int64())), api.OK)
	}
	w := ordinary()
	for _, units := range []int{-1, 10001, 20000, 1<<32 + 1, math.MinInt, math.MaxInt} {
		w.units = units
		s, e := w.told()
		none(t, "units", s, e)
	}
}

// P10.1: every Allow that may be, of 0 percent the very time, of 100 twice as much.
func TestAllow(t *testing.T) {
	for allow := range 101 {
		w := ordinary()
		w.fixed, w.allow = frac(790, 1), allow
		s, e := w.told()
		is(t, "allow", s, e, frac(10*(100+allow), 1), api.OK)
	}
	for _, allow := range []int{-1, -100, 101, 200, 1<<32 + 10} {
		w := ordinary()
		w.allow = allow
		s, e := w.told()
		none(t, "allow", s, e)
	}
}

// P10.1: shares of 0, of 1, and at the greatest numbers, with each other, with Units, and with Allow, each at its least and its greatest.
func TestEdges(t *testing.T) {
	shares := []api.Ratio{frac(0, 1), frac(1, 1), frac(most, 1), frac(1, most), frac(most, most-1)}
	at := make([]int, 5)
	reached, wrong := 0, 0
	for n := range 5 * 5 * 5 * 5 * 5 * 27 {
		rest := n
		for i := range at {
			at[i], rest = rest%5, rest/5
		}
		w := worth{meters: []int{0, 1, 10000}[rest%3], units: []int{0, 1, 10000}[rest/3%3], allow: []int{0, 10, 100}[rest/9],
			pace: shares[at[0]], gear: shares[at[1]], fixed: shares[at[2]], unit: shares[at[3]], class: shares[at[4]]}
		s, e := w.told()
		held(t, "edges", s, e)
		if _, err := Of(s, e); err == api.OK {
			reached++
		} else {
			wrong++
		}
	}
	if reached < 1000 || wrong < 1000 {
		t.Errorf("%d goals, %d errors", reached, wrong)
	}
}

// P10.1: goals at the greatest numbers that may be, and one step beyond.
func TestGreatest(t *testing.T) {
	one, zero := frac(1, 1), frac(0, 1)
	base := worth{meters: 1, pace: zero, gear: one, fixed: zero, unit: zero, class: one, units: 1}
	for i, c := range []struct {
		change func(w *worth)
		want   api.Ratio
		err    api.Errno
	}{
		{func(w *worth) { w.pace = frac(most, 1) }, frac(most, 1), 0},
		{func(w *worth) { w.pace, w.gear = one, frac(most, 1) }, frac(most, 1), 0},
		{func(w *worth) { w.fixed = frac(most, 1) }, frac(most, 1), 0},
		{func(w *worth) { w.unit = frac(most, 1) }, frac(most, 1), 0},
		{func(w *worth) { w.fixed, w.class = one, frac(most, 1) }, frac(most, 1), 0},
		{func(w *worth) { w.pace, w.fixed = frac(most-1, 1), one }, frac(most, 1), 0},
		{func(w *worth) { w.pace, w.fixed = frac(most, 1), one }, api.Ratio{}, 10},
		{func(w *worth) { w.pace, w.fixed = one, frac(most, 1) }, api.Ratio{}, 10},
		{func(w *worth) { w.fixed, w.unit = frac(most-1, 1), one }, frac(most, 1), 0},
		{func(w *worth) { w.fixed, w.unit = frac(most, 1), one }, api.Ratio{}, 10},
		{func(w *worth) { w.fixed = frac(1, most) }, frac(1, most), 0},
		{func(w *worth) { w.pace, w.gear = frac(1, most), frac(most, 1) }, one, 0},
		{func(w *worth) { w.fixed, w.allow = frac(most, 1), 1 }, api.Ratio{}, 10},
		{func(w *worth) { w.fixed, w.allow = frac(1<<30-1, 1), 100 }, frac(most-1, 1), 0},
		{func(w *worth) { w.fixed, w.allow = frac(1<<30, 1), 100 }, api.Ratio{}, 10},
		{func(w *worth) { w.unit, w.units = frac(214748, 1), 10000 }, frac(2147480000, 1), 0},
		{func(w *worth) { w.unit, w.units = frac(214749, 1), 10000 }, api.Ratio{}, 10},
		{func(w *worth) { w.pace, w.meters = frac(214748, 1), 10000 }, frac(2147480000, 1), 0},
		{func(w *worth) { w.pace, w.meters = frac(214749, 1), 10000 }, api.Ratio{}, 10},
	} {
		w := base
		c.change(&w)
		s, e := w.told()
		is(t, strconv.Itoa(i), s, e, c.want, c.err)
		held(t, strconv.Itoa(i), s, e)
	}
}

// P10.1: each step of the reckoning as the first one of which there is no ratio: alone, so that the steps behind it would come out
// of exact numbers again, and with others behind it. Of each the error is the first one's, and the ratio that of 0 through 0.
func TestFirstWrong(t *testing.T) {
	one, half, zero, great, tiny := frac(1, 1), frac(1, 2), frac(0, 1), frac(most, 1), frac(1, most)
	for i, c := range []struct {
		over []int
		w    worth
	}{
		{[]int{1}, worth{2, great, half, zero, zero, one, 0, 0}},
		{[]int{1}, worth{2, great, zero, one, one, one, 5, 10}},
		{[]int{1}, worth{10000, great, frac(1, 10000), zero, zero, zero, 0, 0}},
		{[]int{2}, worth{1, half, tiny, half, zero, one, 0, 0}},
		{[]int{2, 6}, worth{1, half, tiny, zero, zero, one, 0, 100}},
		{[]int{2, 6, 7}, worth{1, great, frac(2, 1), one, one, one, 5, 10}},
		{[]int{3}, worth{1, one, one, half, frac(715827883, 2), one, 3, 0}},
		{[]int{3, 4}, worth{1, zero, one, zero, great, half, 2, 0}},
		{[]int{3, 4}, worth{1, one, one, zero, great, zero, 2, 100}},
		{[]int{4}, worth{1, one, one, great, one, half, 1, 0}},
		{[]int{4}, worth{1, one, one, tiny, half, zero, 1, 50}},
		{[]int{4, 5, 6, 7}, worth{1, half, one, tiny, half, one, 1, 0}},
		{[]int{5}, worth{1, half, one, half, zero, tiny, 0, 0}},
		{[]int{5, 6}, worth{1, zero, one, half, zero, tiny, 0, 100}},
		{[]int{5, 6, 7}, worth{1, zero, one, great, zero, frac(2, 1), 0, 0}},
		{[]int{6}, worth{1, frac(1, 4), one, frac(1, 1000000007), zero, one, 0, 100}},
		{[]int{6, 7}, worth{1, great, one, great, zero, one, 0, 0}},
		{[]int{7}, worth{1, great, one, zero, zero, one, 0, 1}},
		{[]int{7}, worth{1, zero, one, tiny, zero, one, 0, 1}},
		{[]int{1, 2, 6, 7}, worth{2, great, one, one, one, one, 5, 10}},
		{[]int{1, 3, 4}, worth{2, great, zero, zero, great, half, 2, 0}},
		{[]int{1, 3, 4}, worth{3, great, zero, one, great, zero, 3, 100}},
		{[]int{1, 4}, worth{2, great, half, great, one, zero, 1, 0}},
		{[]int{2, 3, 4, 6}, worth{1, half, tiny, zero, great, zero, 2, 100}},
		{[]int{3, 4, 5, 6, 7}, worth{1, one, one, great, great, great, 9, 0}},
		{[]int{1, 2, 3, 4, 5, 6, 7}, worth{10000, great, great, great, great, great, 10000, 100}},
	} {
		s, e := c.w.told()
		if l := over(steps(s, e, c.w.meters)); !slices.Equal(l, c.over) {
			t.Fatalf("%d: the steps of %+v that have no ratio are %v, want %v", i, c.w, l, c.over)
		}
		is(t, strconv.Itoa(i), s, e, api.Ratio{}, api.ErrOver)
	}
}

// drawn is a share by a fixed chance, of small numbers, or also of the greatest ones.
func drawn(r *rand.Rand, great bool) api.Ratio {
	part := func() int {
		if great && r.Intn(2) == 0 {
			return []int{most - r.Intn(3), 1 + r.Intn(most), 1 + r.Intn(70000)}[r.Intn(3)]
		}
		return 1 + r.Intn([]int{1, 4, 12, 100}[r.Intn(4)])
	}
	x := big.NewRat(int64(part()), int64(part()))
	if r.Intn(9) == 0 {
		x.SetInt64(0)
	}
	return frac(int(x.Num().Int64()), int(x.Denom().Int64()))
}

// listed is as many things as a table may have, or fewer, by a fixed chance.
func listed[T any](r *rand.Rand, one func() T) []T {
	var l []T
	for range 1 + r.Intn(8) {
		l = append(l, one())
	}
	return l
}

// chosen is a setup that may be, and a task that may be in it, by a fixed chance.
func chosen(r *rand.Rand) (api.Setup, api.Event) {
	great := r.Intn(3) == 0
	share := func() api.Ratio { return drawn(r, great) }
	s := whole()
	s.Places, s.Ways, s.Pace, s.Allow = 1+r.Intn(16), nil, share(), r.Intn(101)
	for range r.Intn(4 * s.Places) {
		if a, b := r.Intn(s.Places), r.Intn(s.Places); a != b {
			s.Ways = append(s.Ways, to(a, b, 1+r.Intn([]int{3, 100, 10000}[r.Intn(3)])))
		}
	}
	s.Elements = listed(r, func() api.Element { return api.Element{Fixed: share(), Unit: share()} })
	s.Classes, s.Gears = listed(r, share), listed(r, share)
	return s, api.Event{ID: r.Intn(100001), Worker: r.Intn(3), At: r.Intn(31449600), Kind: 3, From: r.Intn(s.Places), To: r.Intn(s.Places),
		Element: r.Intn(len(s.Elements)), Units: r.Intn([]int{2, 100, 10001}[r.Intn(3)]), Class: r.Intn(len(s.Classes)), Gear: r.Intn(len(s.Gears))}
}

// P10.1: setups and tasks of all sizes, some of them spoiled.
func TestChance(t *testing.T) {
	r := rand.New(rand.NewSource(101))
	seen := map[api.Errno]int{}
	for i := range 30000 {
		s, e := chosen(r)
		if i%8 == 0 {
			all := []*int{&e.ID, &e.Worker, &e.At, &e.Kind, &e.From, &e.To, &e.Element, &e.Units, &e.Class, &e.Gear, &e.Code}
			*all[r.Intn(len(all))] += []int{-1, 1, -3, 3, 1 << 32}[r.Intn(5)]
		}
		held(t, strconv.Itoa(i), s, e)
		_, err := Of(s, e)
		seen[err]++
		if i%16 == 1 {
			s.Cap = 59
			none(t, strconv.Itoa(i), s, e)
		}
	}
	if seen[0] < 3000 || seen[10] < 3000 || seen[100] < 3000 || len(seen) != 3 {
		t.Errorf("%v", seen)
	}
}

// P10.1, R1: hand-made setups and events, all of whose numbers may be any.
func TestHandMade(t *testing.T) {
	r := rand.New(rand.NewSource(102))
	wild := func() int {
		return []int{0, 1, 2, 3, -1, 7, most, 1 << 31, 1 << 32, math.MaxInt, math.MinInt, r.Int(), -r.Int()}[r.Intn(13)]
	}
	for range 20000 {
		s := api.Setup{Places: wild(), Pace: frac(wild(), wild()), Allow: wild(), Unit: 1, Cap: 60}
		for range r.Intn(3) {
			s.Ways = append(s.Ways, to(wild(), wild(), wild()))
			s.Elements = append(s.Elements, api.Element{Fixed: frac(wild(), wild()), Unit: frac(wild(), wild())})
			s.Classes, s.Gears = append(s.Classes, frac(wild(), wild())), append(s.Gears, frac(wild(), wild()))
			s.Rates = append(s.Rates, wild())
		}
		e := api.Event{ID: wild(), Worker: wild(), At: wild(), Kind: wild(), From: wild(), To: wild(), Element: wild(), Units: wild(), Class: wild(), Gear: wild(), Code: wild()}
		if got, err := Of(s, e); err != api.OK && got != (api.Ratio{}) || err != api.OK && err != api.ErrTask && err != api.ErrOver {
			t.Fatalf("Of(%+v, %+v) = %v, %d", s, e, got, err)
		}
		none(t, "a hand-made event", whole(), api.Event{ID: wild(), Kind: wild(), From: -1 - r.Intn(9), To: wild(), Units: wild()})
	}
}

// exactly is the goal of a task, and whether there is one.
func exactly(s api.Setup, e api.Event) (*big.Rat, bool) {
	r, err := Of(s, e)
	if err != api.OK {
		return nil, false
	}
	return big.NewRat(int64(r.Num), int64(r.Den)), true
}

// P10.2: more units take no less; twice as many units more take twice as much more.
func TestMoreUnits(t *testing.T) {
	r := rand.New(rand.NewSource(103))
	compared := 0
	for range 30000 {
		s, e := chosen(r)
		e.Units = r.Intn(5000)
		more := r.Intn(2500)
		var goals []*big.Rat
		for i := range 3 {
			with := e
			with.Units += i * more
			if g, ok := exactly(s, with); ok {
				goals = append(goals, g)
			}
		}
		for i := 1; i < len(goals); i++ {
			if goals[i].Cmp(goals[i-1]) < 0 {
				t.Fatalf("%+v, %+v: %v, and %d units more: %v", s, e, goals[i-1], more, goals[i])
			}
		}
		if len(goals) < 3 {
			continue
		}
		compared++
		first, second := new(big.Rat).Sub(goals[1], goals[0]), new(big.Rat).Sub(goals[2], goals[0])
		if second.Cmp(new(big.Rat).Add(first, first)) != 0 {
			t.Fatalf("%+v, %+v: %d units more: %v, twice as many: %v", s, e, more, first, second)
		}
	}
	if compared < 3000 {
		t.Errorf("%d compared", compared)
	}
}

// P10.2: a unit more takes just so much more, from the least to the greatest number of them.
func TestEachUnit(t *testing.T) {
	w := worth{meters: 7, pace: frac(2, 3), gear: frac(5, 4), fixed: frac(1, 6), unit: frac(3, 7), class: frac(9, 8), allow: 15}
	last := new(big.Rat)
	for units := range 10001 {
		w.units = units
		g, ok := exactly(w.told())
		if !ok {
			t.Fatalf("%d units: no goal", units)
		}
		// 3/7 * 9/8 * 115/100
		if d := new(big.Rat).Sub(g, last); units > 0 && d.Cmp(big.NewRat(621, 1120)) != 0 {
			t.Fatalf("%d units: %v more", units, d)
		}
		last = g
	}
}

// P10.2: it takes as long there as back, and what can't be done there can't be done back.
func TestThereAndBack(t *testing.T) {
	r := rand.New(rand.NewSource(104))
	for range 20000 {
		s, e := chosen(r)
		want, err := Of(s, e)
		e.From, e.To = e.To, e.From
		is(t, "back", s, e, want, err)
	}
}

// P10.1, R4: what stands beside a setup's own numbers, and how often it is asked, changes no answer.
func TestSameAgain(t *testing.T) {
	r := rand.New(rand.NewSource(105))
	for range 2000 {
		s, e := chosen(r)
		want, err := Of(s, e)
		is(t, "again", s, e, want, err)
		s.Unit, s.Cap, s.PaidBreak, s.AutoAfter, s.AutoBreak, s.DayReg, s.DayOver, s.WeekReg = 1, 60, 0, 0, 0, 0, 0, 0
		s.NightFrom, s.NightTo, s.Rates, s.Diff, s.Least, s.Fault, s.Tiers = 0, 0, []int{0, 0, 0}, 0, 0, 0, nil
		is(t, "with other numbers beside", s, e, want, err)
	}
}

// roomy is s with spare room in each list, in which there stands what would change the answers.
func roomy(s api.Setup) api.Setup {
	s.Ways = append(slices.Clone(s.Ways), to(0, s.Places-1, 1), to(-7, -7, -7))[:len(s.Ways)]
	s.Elements = append(slices.Clone(s.Elements), api.Element{}, api.Element{})[:len(s.Elements)]
	s.Classes = append(slices.Clone(s.Classes), frac(-7, -7))[:len(s.Classes)]
	s.Gears = append(slices.Clone(s.Gears), frac(-7, -7))[:len(s.Gears)]
	s.Rates = append(slices.Clone(s.Rates), -7, -7)[:len(s.Rates)]
	s.Tiers = append(slices.Clone(s.Tiers), api.Tier{Least: -7})[:len(s.Tiers)]
	return s
}

// unfolded is a setup in memory of its own, with what stands in its spare room as elements.
func unfolded(s api.Setup) api.Setup {
	s.Ways, s.Elements = slices.Clone(s.Ways[:cap(s.Ways)]), slices.Clone(s.Elements[:cap(s.Elements)])
	s.Classes, s.Gears = slices.Clone(s.Classes[:cap(s.Classes)]), slices.Clone(s.Gears[:cap(s.Gears)])
	s.Rates, s.Tiers = slices.Clone(s.Rates[:cap(s.Rates)]), slices.Clone(s.Tiers[:cap(s.Tiers)])
	return s
}

// alike tells whether the lists of two setups are the same ones.
func alike(a, b api.Setup) bool {
	return slices.Equal(a.Ways, b.Ways) && slices.Equal(a.Elements, b.Elements) && slices.Equal(a.Classes, b.Classes) &&
		slices.Equal(a.Gears, b.Gears) && slices.Equal(a.Rates, b.Rates) && slices.Equal(a.Tiers, b.Tiers)
}

// P10.1: what is handed in stays as it was, its spare room too, and that tells nothing; whether there is a goal or not.
func TestHandedIn(t *testing.T) {
	r := rand.New(rand.NewSource(106))
	for range 2000 {
		s, e := chosen(r)
		s = roomy(s)
		was := unfolded(s)
		held(t, "roomy", s, e)
		e.Gear = len(s.Gears)
		none(t, "in the spare room", s, e)
		s.Cap = 59
		none(t, "roomy", s, e)
		if !alike(unfolded(s), was) {
			t.Fatalf("%+v was changed", was)
		}
	}
}

// P10.1: a setup that is changed behind the call changes no answer, nor does an answer change another one, or the setup.
func TestOwnMemory(t *testing.T) {
	s, e := whole(), task()
	one, _ := Of(s, e)
	two, _ := Of(s, e)
	want := frac(198781, 560)
	one.Num, one.Den = -7, -7
	clear(s.Ways)
	if two != want {
		t.Errorf("%v", two)
	}
	none(t, "cleared", s, e)
	s = whole()
	is(t, "another one", s, e, want, api.OK)
	s.Pace, s.Gears[0], s.Classes[0] = frac(1, 1), frac(1, 1), frac(1, 1)
	is(t, "changed", s, e, frac(6787, 20), api.OK)
}
