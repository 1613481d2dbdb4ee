package night

import (
	"math"
	"math/rand"
	"slices"
	"sort"
	"strconv"
	"testing"

	"lumper/api"
	"lumper/setup"
	"lumper/span"
)

const (
	// day and end are as the document says them.
	day = 86400
	end = 53 * 604800

	least    = math.MinInt
	greatest = math.MaxInt
)

// with is a setup, that may be if the night may, of a night.
func with(from, to int) api.Setup {
	return api.Setup{Places: 1, Pace: api.Ratio{Num: 1, Den: 1}, Unit: 1, Cap: 60, NightFrom: from, NightTo: to, Rates: []int{1}}
}

// full is a setup, that may be, with some of everything.
func full(from, to int) api.Setup {
	third := api.Ratio{Num: 1, Den: 3}
	return api.Setup{Places: 3, Ways: []api.Way{{A: 0, B: 2, Meters: 300}}, Pace: third, Elements: []api.Element{{Fixed: third, Unit: third}},
		Classes: []api.Ratio{third, third}, Gears: []api.Ratio{third}, Allow: 7, Unit: 900, Cap: 36000, PaidBreak: 1200, AutoAfter: 21600, AutoBreak: 1800,
		DayReg: 28800, DayOver: 43200, WeekReg: 144000, NightFrom: from, NightTo: to, Rates: []int{1500, 2000}, Diff: 75, Least: 725, Fault: 60,
		Tiers: []api.Tier{{Least: 100, Bonus: 150}}}
}

// of is spans, from and to by turns.
func of(l ...int) []api.Span {
	var out []api.Span
	for i := 0; i+1 < len(l); i += 2 {
		out = append(out, api.Span{From: l[i], To: l[i+1]})
	}
	return out
}

// about are numbers, each with those next to it.
func about(l ...int) []int {
	var out []int
	for _, n := range l {
		out = append(out, n-1, n, n+1)
	}
	slices.Sort(out)
	return slices.Compact(out)
}

// nights are what a night may begin, and end, with, both ways.
func nights() []api.Setup {
	var l []api.Setup
	bounds := []int{0, 1, 2, 21600, 43200, 79200, day - 2, day - 1, day}
	for _, from := range bounds {
		for _, to := range bounds {
			l = append(l, with(from, to))
		}
	}
	return l
}

// isSecond is what the document says of seconds.
func isSecond(t int) bool { return t >= 0 && t < end }

// byNight is what the document says of a second, and of a setup that may be.
func byNight(s api.Setup, t int) bool {
	behind := t % day
	if s.NightTo < s.NightFrom {
		return behind >= s.NightFrom || behind < s.NightTo
	}
	return behind >= s.NightFrom && behind < s.NightTo
}

// said is what the document says of Is, of a setup that may be.
func said(s api.Setup, t int) bool { return isSecond(t) && byNight(s, t) }

// member is what the document says of a second of a set.
func member(l []api.Span, t int) bool {
	return isSecond(t) && slices.ContainsFunc(l, func(s api.Span) bool { return s.From <= t && t < s.To })
}

// turns are all times, rising, at which a night begins or ends, or a span does, or a day.
func turns(s api.Setup, l []api.Span) []int {
	out := []int{0, end}
	for midnight := 0; midnight < end; midnight += day {
		out = append(out, midnight, midnight+s.NightFrom, midnight+s.NightTo)
	}
	for _, p := range l {
		out = append(out, max(0, min(p.From, end)), max(0, min(p.To, end)))
	}
	sort.Ints(out)
	return slices.Compact(out)
}

// parted is what the document says of Of, of a setup that may be: asked once between each two turns.
func parted(s api.Setup, l []api.Span) []api.Span {
	all := turns(s, l)
	var out []api.Span
	for i, t := range all[1:] {
		from := all[i]
		switch n := len(out); {
		case !byNight(s, from) || !member(l, from):
		case n > 0 && out[n-1].To == from:
			out[n-1].To = t
		default:
			out = append(out, api.Span{From: from, To: t})
		}
	}
	return out
}

// isPlain is what the document says of plain spans.
func isPlain(l []api.Span) bool {
	for i, s := range l {
		if s.From < 0 || s.From >= s.To || s.To > end || i > 0 && l[i-1].To >= s.From {
			return false
		}
	}
	return true
}

// check holds both calls against the document's words, Is about all bounds; the list stays as it was, its spare room included.
func check(t *testing.T, name string, s api.Setup, l []api.Span) {
	t.Helper()
	was := slices.Clone(l[:cap(l)])
	if got, want := Of(s, l), parted(s, l); !slices.Equal(got, want) || !isPlain(got) {
		t.Fatalf("%s: by night of %d to %d: Of(%v) = %v, want %v", name, s.NightFrom, s.NightTo, l, got, want)
	}
	for _, p := range l {
		for _, at := range about(p.From, p.To) {
			if got, want := Is(s, at), said(s, at); got != want {
				t.Fatalf("%s: by night of %d to %d: Is(%d) = %v", name, s.NightFrom, s.NightTo, at, got)
			}
		}
	}
	if !slices.Equal(l[:cap(l)], was) {
		t.Fatalf("%s: %v was changed: %v", name, was, l[:cap(l)])
	}
}

// some is a list by chance: of spans that lie close, or about the ends of days, or reach far, or are none.
func some(r *rand.Rand, s api.Setup) []api.Span {
	base := []int{0, day, 3 * day, 40 * day, 200 * day, end - 2*day, end - day}[r.Intn(7)]
	bound := func() int {
		switch r.Intn(8) {
		case 0:
			return []int{least, -day, -1, 0, 1, end - 1, end, end + 1, end + day, greatest}[r.Intn(10)]
		case 1:
			return base + r.Intn(9*day) - 4*day
		case 2:
			return base + r.Intn(5)*day
		case 3:
			return base + s.NightTo + r.Intn(40) - 20
		case 4:
			return base + day + s.NightFrom + r.Intn(40) - 20
		}
		return base + s.NightFrom + r.Intn(40) - 20
	}
	var l []api.Span
	for range r.Intn(7) {
		p := api.Span{From: bound(), To: bound()}
		if r.Intn(6) > 0 && p.From > p.To {
			p.From, p.To = p.To, p.From
		}
		l = append(l, p)
	}
	return l
}

// drawn is a setup of a night by chance, mostly of one that has some seconds.
func drawn(r *rand.Rand) api.Setup {
	bound := func() int {
		if r.Intn(4) == 0 {
			return []int{0, 1, day - 1, day}[r.Intn(4)]
		}
		return r.Intn(day + 1)
	}
	return with(bound(), bound())
}

// known is a night, spans, and which of their seconds are by night.
type known struct {
	name     string
	from, to int
	l, want  []api.Span
}

// ordinary are nights and spans of all kinds, on one day and on many.
func ordinary() []known {
	return []known{
		{"the chapter's example", 79200, 21600, of(70000, 90000), of(79200, 90000)},
		{"no spans", 79200, 21600, nil, nil},
		{"an empty list", 79200, 21600, []api.Span{}, nil},
		{"without seconds", 0, day, of(50, 50, 90, 40, day, day, end, end, greatest, least), nil},
		{"by day alone", 79200, 21600, of(21600, 79200), nil},
		{"by night alone", 79200, 21600, of(80000, 90000), of(80000, 90000)},
		{"within the early hours", 79200, 21600, of(100, 200), of(100, 200)},
		{"within the late hours", 79200, 21600, of(80000, 80100), of(80000, 80100)},
		{"just a day", 79200, 21600, of(day, 2*day), of(day, day+21600, day+79200, 2*day)},
		{"just a day, of one within it", 100, 200, of(day, 2*day), of(day+100, day+200)},
		{"a night across a day's end", 79200, 21600, of(70000, 120000), of(79200, day+21600)},
		{"three days", 79200, 21600, of(0, 3*day), of(0, 21600, 79200, day+21600, day+79200, 2*day+21600, 2*day+79200, 3*day)},
		{"three days, of one within each", 100, 200, of(0, 3*day), of(100, 200, day+100, day+200, 2*day+100, 2*day+200)},
		{"begins within a night", 100, 200, of(150, 5000), of(150, 200)},
		{"ends within a night", 100, 200, of(50, 150), of(100, 150)},
		{"begins, and ends, within a night", 100, 200, of(150, day+150), of(150, 200, day+100, day+150)},
		{"begins within a night across a day's end", 79200, 21600, of(day+7, day+80000), of(day+7, day+21600, day+79200, day+80000)},
		{"begins with a night", 100, 200, of(100, 5000), of(100, 200)},
		{"ends with a night", 100, 200, of(7, 200), of(100, 200)},
		{"just a night", 100, 200, of(100, 200), of(100, 200)},
		{"ends ahead of a night", 100, 200, of(7, 100), nil},
		{"begins behind a night", 100, 200, of(200, 5000), nil},
		{"a second ahead of a night", 100, 200, of(99, 100), nil},
		{"the first second of a night", 100, 200, of(100, 101), of(100, 101)},
		{"the last second of a night", 100, 200, of(199, 200), of(199, 200)},
		{"a second behind a night", 100, 200, of(200, 201), nil},
		{"a night of one second", 100, 101, of(0, 2*day), of(100, 101, day+100, day+101)},
		{"all but one second", 101, 100, of(0, 2*day), of(0, 100, 101, day+100, day+101, 2*day)},
		{"unsorted", 79200, 21600, of(90000, 120000, 70000, 80000), of(79200, 80000, 90000, 108000)},
		{"overlapping", 79200, 21600, of(70000, 85000, 80000, 90000, 81000, 82000), of(79200, 90000)},
		{"touching within a night", 79200, 21600, of(80000, 90000, 70000, 80000), of(79200, 90000)},
		{"touching at a day's end", 79200, 21600, of(day, 90000, 80000, day), of(80000, 90000)},
		{"touching at a night's end", 79200, 21600, of(20000, 21600, 21600, 30000), of(20000, 21600)},
		{"touching at a night's beginning", 79200, 21600, of(70000, 79200, 79200, 80000), of(79200, 80000)},
		{"the same twice", 100, 200, of(150, 300, 150, 300), of(150, 200)},
		{"ends ahead of their beginning", 100, 200, of(180, 120, 150, 160, greatest, least), of(150, 160)},
		{"a hole within a night", 79200, 21600, of(80000, 85000, 85001, 90000), of(80000, 85000, 85001, 90000)},
		{"a hole by day", 100, 200, of(0, 300, 400, 500), of(100, 200)},
		{"one a night", 79200, 21600, of(9*day-5, 9*day+5, day-5, day+5, 5*day-5, 5*day+5), of(day-5, day+5, 5*day-5, 5*day+5, 9*day-5, 9*day+5)},
	}
}

// edges are nights at a day's beginning and end, and spans at the ends of all time.
func edges() []known {
	return []known{
		{"0 to 0", 0, 0, of(5, 200000), nil},
		{"the same", 300, 300, of(5, 200000), nil},
		{"one less than 86400, the same", day - 1, day - 1, of(5, 200000), nil},
		{"86400 to 86400", day, day, of(5, 200000), nil},
		{"0 to 86400", 0, day, of(5, 200000), of(5, 200000)},
		{"86400 to 0", day, 0, of(5, 200000), nil},
		{"0 to 86399", 0, day - 1, of(5, 2*day), of(5, day-1, day, 2*day-1)},
		{"1 to 86400", 1, day, of(0, 2*day), of(1, day, day+1, 2*day)},
		{"86400 to 1", day, 1, of(0, 2*day+5), of(0, 1, day, day+1, 2*day, 2*day+1)},
		{"86399 to 0", day - 1, 0, of(0, 2*day), of(day-1, day, 2*day-1, 2*day)},
		{"86399 to 1", day - 1, 1, of(0, 2*day), of(0, 1, day-1, day+1, 2*day-1, 2*day)},
		{"1 to 0", 1, 0, of(0, 2*day), of(1, day, day+1, 2*day)},
		{"86400 to 86399", day, day - 1, of(0, 2*day), of(0, day-1, day, 2*day-1)},
		{"begins at a day's beginning", 0, 21600, of(80000, 120000), of(day, day+21600)},
		{"ends at a day's end", 79200, day, of(70000, 120000), of(79200, day)},
		{"ends at a day's beginning", 79200, 0, of(70000, 120000), of(79200, day)},
		{"begins at a day's end", day, 21600, of(70000, 120000), of(day, day+21600)},
		{"the first day", 79200, 21600, of(0, day), of(0, 21600, 79200, day)},
		{"the last day", 79200, 21600, of(end-day, end), of(end-day, end-day+21600, end-7200, end)},
		{"the last day, a whole night", 0, day, of(end-day, end), of(end-day, end)},
		{"the first second", 79200, 21600, of(0, 1), of(0, 1)},
		{"the last second", 79200, 21600, of(end-1, end), of(end-1, end)},
		{"the last second, by day", 21600, 79200, of(end-1, end), nil},
		{"from below 0", 0, 1, of(-50, 50), of(0, 1)},
		{"from below 0, of a night that ends with the day", day - 100, day, of(-50, 50), nil},
		{"below 0 alone", 0, day, of(-100000, 0, -5, -3, least, -1), nil},
		{"beyond the end", 79200, 21600, of(end-5, end+50), of(end-5, end)},
		{"above the end alone", 0, day, of(end, end+5, end+day, greatest), nil},
		{"all numbers, a whole night", 0, day, of(least, greatest), of(0, end)},
		{"all numbers, no night", day, 0, of(least, greatest), nil},
		{"the least numbers", 0, day, of(least, least+1), nil},
		{"the greatest numbers", 0, day, of(greatest-1, greatest), nil},
	}
}

// P14.1: nights and spans whose answers are written out here; of a setup that may be its night alone tells.
func TestKnown(t *testing.T) {
	for _, c := range append(ordinary(), edges()...) {
		for _, s := range []api.Setup{with(c.from, c.to), full(c.from, c.to)} {
			if !setup.Check(s) {
				t.Fatalf("%s: the setup may not be", c.name)
			}
			if got := Of(s, c.l); !slices.Equal(got, c.want) {
				t.Errorf("%s: Of(%v) = %v, want %v", c.name, c.l, got, c.want)
			}
			check(t, c.name, s, c.l)
		}
	}
}

// P14.2: the first and the last second of a night, those about them, and times that are no seconds.
func TestIs(t *testing.T) {
	for _, c := range []struct {
		from, to int
		yes, no  []int
	}{
		{100, 200, []int{100, 101, 199, day + 100, day + 199, end - day + 100, end - day + 199}, []int{0, 99, 200, 201, day - 1, day, day + 99, day + 200, end - day + 200, end - 1}},
		{200, 100, []int{0, 99, 200, day - 1, day, day + 99, day + 200, end - day, end - day + 200, end - 1}, []int{100, 199, day + 100, day + 199, end - day + 100, end - day + 199}},
		{79200, 21600, []int{0, 21599, 79200, day - 1, day, day + 21599}, []int{21600, 43200, 79199, day + 21600, day + 79199}},
		{0, day, []int{0, 1, 43200, day - 1, day, 5*day - 1, end - day, end - 1}, nil},
		{day, 0, nil, []int{0, 1, 43200, day - 1, day, 5*day - 1, end - day, end - 1}},
		{0, 0, nil, []int{0, 1, 43200, day - 1, day, end - 1}},
		{300, 300, nil, []int{0, 299, 300, 301, day + 300, end - 1}},
		{day, day, nil, []int{0, 1, 43200, day - 1, day, end - 1}},
		{day, 1, []int{0, day, end - day}, []int{1, day - 1, day + 1, end - day + 1, end - 1}},
		{day - 1, 0, []int{day - 1, 2*day - 1, end - 1}, []int{0, 1, day - 2, day, end - day, end - 2}},
		{0, 1, []int{0, day, end - day}, []int{1, day - 1, day + 1, end - 1}},
		{1, 0, []int{1, day - 1, day + 1, end - 1}, []int{0, day, end - day}},
		{0, day - 1, []int{0, day - 2, day, end - 2}, []int{day - 1, 2*day - 1, end - 1}},
	} {
		s := with(c.from, c.to)
		for _, at := range c.yes {
			if !Is(s, at) {
				t.Errorf("%d to %d: %d is by night", c.from, c.to, at)
			}
		}
		for _, at := range c.no {
			if Is(s, at) {
				t.Errorf("%d to %d: %d is not by night", c.from, c.to, at)
			}
		}
	}
}

// P14.2: what is no second is by no night, that of a whole day neither.
func TestIsNoSecond(t *testing.T) {
	for _, s := range nights() {
		for _, at := range []int{least, least + 1, -1 << 62, -1 << 40, -end, -day - 1, -day, -day + 1, -7200, -100, -1,
			end, end + 1, end + 100, end + 7200, end + day - 1, end + day, 2 * end, 1 << 40, 1 << 62, greatest - day, greatest - 1, greatest} {
			if Is(s, at) {
				t.Errorf("%d to %d: %d is by night", s.NightFrom, s.NightTo, at)
			}
			if got := Of(s, of(at, at+1)); len(got) > 0 {
				t.Errorf("%d to %d: of %d alone: %v", s.NightFrom, s.NightTo, at, got)
			}
		}
	}
}

// P14.2: each second of a whole day, by nights of all kinds.
func TestIsEachSecond(t *testing.T) {
	for _, s := range []api.Setup{with(100, 200), with(79200, 21600), with(0, day), with(day, 0), with(day-1, 1)} {
		for _, midnight := range []int{0, 3 * day, end - day} {
			for at := midnight; at < midnight+day; at++ {
				if got := Is(s, at); got != byNight(s, at) {
					t.Fatalf("%d to %d: Is(%d) = %v", s.NightFrom, s.NightTo, at, got)
				}
			}
		}
	}
}

// P14.2: all nights, with all times about their bounds, on days of all kinds.
func TestIsEdges(t *testing.T) {
	for _, s := range nights() {
		for _, n := range []int{-2, -1, 0, 1, 2, 6, 7, 100, 369, 370, 371, 372} {
			for _, behind := range about(0, 1, 21600, 43200, 79200, day-1, day) {
				at := n*day + behind
				if got, want := Is(s, at), said(s, at); got != want {
					t.Fatalf("%d to %d: Is(%d) = %v", s.NightFrom, s.NightTo, at, got)
				}
			}
		}
	}
}

// P14.1: one span with all edges as its bounds, and two of them together.
func TestEdges(t *testing.T) {
	var wide []api.Span
	bounds := []int{least, -1, 0, 1, 21600, 79199, 79200, day - 1, day, day + 1, day + 21600, 3 * day, end - day, end - 1, end, end + 1, greatest}
	for _, from := range bounds {
		for _, to := range bounds {
			wide = append(wide, api.Span{From: from, To: to})
		}
	}
	for i, s := range nights() {
		for j := i % 3; j < len(wide); j += 3 {
			check(t, "one", s, wide[j:j+1:j+1])
			check(t, "two", s, []api.Span{wide[j], wide[(j*7+i)%len(wide)]})
		}
	}
}

// P14.1: of all seconds each day has its night, the first one and the last one too.
func TestWhole(t *testing.T) {
	for _, s := range nights() {
		var each []api.Span
		for n := range 371 {
			if s.NightTo < s.NightFrom {
				each = append(each, of(n*day, n*day+s.NightTo, n*day+s.NightFrom, n*day+day)...)
			} else {
				each = append(each, of(n*day+s.NightFrom, n*day+s.NightTo)...)
			}
		}
		for _, all := range [][]api.Span{of(0, end), of(least, greatest)} {
			if got := Of(s, all); !slices.Equal(got, span.Norm(each...)) {
				t.Errorf("%d to %d: %v", s.NightFrom, s.NightTo, got)
			}
		}
	}
}

// P14.1: lists of several spans.
func TestSome(t *testing.T) {
	r := rand.New(rand.NewSource(141))
	for i := range 3000 {
		s := drawn(r)
		check(t, strconv.Itoa(i), s, some(r, s))
	}
}

// P14.1, R1: numbers of all kinds, in setups and in hand-made spans.
func TestHandMade(t *testing.T) {
	r := rand.New(rand.NewSource(142))
	wild := func() int {
		return []int{0, 1, -1, day, day - 1, day + 1, end, end - 1, end + 1, least, greatest, 1 << 62, -1 << 62, r.Intn(end), r.Int(), -r.Int()}[r.Intn(16)]
	}
	for range 3000 {
		s := with(wild(), wild())
		l := of(wild(), wild(), wild(), wild(), wild(), wild())[:r.Intn(4)]
		if setup.Check(s) {
			check(t, "hand-made", s, l)
			continue
		}
		if got := Of(s, l); len(got) > 0 {
			t.Fatalf("%d to %d: Of(%v) = %v", s.NightFrom, s.NightTo, l, got)
		}
		if at := wild(); Is(s, at) {
			t.Fatalf("%d to %d: Is(%d)", s.NightFrom, s.NightTo, at)
		}
	}
}

// none holds a setup that may not be against having no night.
func none(t *testing.T, name string, s api.Setup) {
	t.Helper()
	if setup.Check(s) {
		t.Fatalf("%s: the setup may be", name)
	}
	for _, l := range [][]api.Span{of(0, end), of(least, greatest), of(70000, 90000), of(0, 1), nil} {
		if got := Of(s, l); len(got) > 0 {
			t.Errorf("%s: Of(%v) = %v", name, l, got)
		}
	}
	for _, at := range []int{least, -1, 0, 1, 5, 43200, 80000, day - 1, day, 5 * day, end - 1, end, greatest} {
		if Is(s, at) {
			t.Errorf("%s: Is(%d)", name, at)
		}
	}
}

// P14.1, P14.2: a setup that may not be by its NightFrom, or its NightTo, or both.
func TestNightsThatMayNotBe(t *testing.T) {
	for _, wrong := range []int{least, -1 << 62, -end, -day, -79200, -1, day + 1, 2 * day, end, 1 << 62, greatest} {
		for _, fair := range []int{0, 1, 43200, day - 1, day} {
			none(t, "NightFrom alone", with(wrong, fair))
			none(t, "NightTo alone", with(fair, wrong))
		}
		for _, other := range []int{least, -1, day + 1, greatest} {
			none(t, "both", with(wrong, other))
		}
	}
}

// P14.1, P14.2: a setup that may not be by anything else.
func TestSetupsThatMayNotBe(t *testing.T) {
	none(t, "a setup without anything", api.Setup{})
	none(t, "a night alone", api.Setup{NightFrom: 0, NightTo: day})
	for name, spoil := range map[string]func(*api.Setup){
		"Places":    func(s *api.Setup) { s.Places = 0 },
		"Ways":      func(s *api.Setup) { s.Ways = []api.Way{{A: 0, B: 0, Meters: 1}} },
		"Pace":      func(s *api.Setup) { s.Pace = api.Ratio{Num: 2, Den: 2} },
		"Elements":  func(s *api.Setup) { s.Elements = make([]api.Element, 1) },
		"Classes":   func(s *api.Setup) { s.Classes = make([]api.Ratio, 1) },
		"Gears":     func(s *api.Setup) { s.Gears = make([]api.Ratio, 1) },
		"Allow":     func(s *api.Setup) { s.Allow = 101 },
		"Unit":      func(s *api.Setup) { s.Unit = 0 },
		"Cap":       func(s *api.Setup) { s.Cap = 59 },
		"PaidBreak": func(s *api.Setup) { s.PaidBreak = -1 },
		"AutoAfter": func(s *api.Setup) { s.AutoAfter = day + 1 },
		"AutoBreak": func(s *api.Setup) { s.AutoBreak = -1 },
		"DayReg":    func(s *api.Setup) { s.DayReg = 1 },
		"DayOver":   func(s *api.Setup) { s.DayOver = day + 1 },
		"WeekReg":   func(s *api.Setup) { s.WeekReg = 7*day + 1 },
		"Rates":     func(s *api.Setup) { s.Rates = nil },
		"Diff":      func(s *api.Setup) { s.Diff = -1 },
		"Least":     func(s *api.Setup) { s.Least = 100001 },
		"Fault":     func(s *api.Setup) { s.Fault = -1 },
		"Tiers":     func(s *api.Setup) { s.Tiers = []api.Tier{{Least: 1}, {Least: 1}} },
	} {
		for _, s := range []api.Setup{with(0, day), with(79200, 21600), with(100, 200)} {
			spoil(&s)
			none(t, name, s)
		}
	}
}

// P14.1, R4: a set has the same seconds by night, however it is told: in another order, in pieces, with nothing beside it.
func TestSameSet(t *testing.T) {
	r := rand.New(rand.NewSource(143))
	for range 2000 {
		s := drawn(r)
		l := some(r, s)
		other := append(of(9, 9, 7, 3, -5, 0, end, end+9), l...)
		for _, p := range span.Norm(l...) {
			at := p.From + r.Intn(p.To-p.From)
			other = append(other, of(at, p.To, p.From, at)...)
		}
		r.Shuffle(len(other), func(i, j int) { other[i], other[j] = other[j], other[i] })
		if a, b := Of(s, l), Of(s, slices.Clip(other)); !slices.Equal(a, b) {
			t.Fatalf("%d to %d: %v, %v: %v, %v", s.NightFrom, s.NightTo, l, other, a, b)
		}
	}
}

// later is the spans, so many days later.
func later(l []api.Span, n int) []api.Span {
	var out []api.Span
	for _, s := range l {
		out = append(out, api.Span{From: s.From + n*day, To: s.To + n*day})
	}
	return out
}

// P14.3: what is by night does not hang on the day: so many days later the same is, of seconds and of sets.
func TestAnyDay(t *testing.T) {
	r := rand.New(rand.NewSource(144))
	for range 2000 {
		s := drawn(r)
		for _, behind := range append(about(s.NightFrom, s.NightTo), 0, day-1, r.Intn(day)) {
			if behind < 0 || behind >= day {
				continue
			}
			for _, n := range []int{1, 2, 6, 7, r.Intn(371), 370} {
				if Is(s, behind) != Is(s, behind+n*day) {
					t.Fatalf("%d to %d: %d, and %d days later", s.NightFrom, s.NightTo, behind, n)
				}
			}
		}
		var l []api.Span
		for range r.Intn(5) {
			from := r.Intn(4 * day)
			l = append(l, of(from, from+r.Intn(2*day))...)
		}
		for _, n := range []int{1, 7, r.Intn(365), 365} {
			if a, b := later(Of(s, l), n), Of(s, later(l, n)); !slices.Equal(a, b) {
				t.Fatalf("%d to %d: %v, and %d days later: %v, %v", s.NightFrom, s.NightTo, l, n, a, b)
			}
		}
	}
}

// P14.3: what is by night, and what is not, make the set, and share no second; what is not is by night of the night the other way round.
func TestMakeTheSet(t *testing.T) {
	r := rand.New(rand.NewSource(145))
	for range 2000 {
		s := drawn(r)
		l := some(r, s)
		dark := Of(s, l)
		light := span.Minus(l, dark)
		if !slices.Equal(span.Norm(append(slices.Clone(dark), light...)...), span.Norm(l...)) || span.Size(dark)+span.Size(light) != span.Size(l) {
			t.Fatalf("%d to %d: %v: %v, %v", s.NightFrom, s.NightTo, l, dark, light)
		}
		for _, p := range dark {
			if !Is(s, p.From) || !Is(s, p.To-1) || Is(s, p.To) && span.Has(l, p.To) || Is(s, p.From-1) && span.Has(l, p.From-1) {
				t.Fatalf("%d to %d: %v: %v", s.NightFrom, s.NightTo, l, dark)
			}
		}
		for _, p := range light {
			if Is(s, p.From) || Is(s, p.To-1) {
				t.Fatalf("%d to %d: %v: not by night %v", s.NightFrom, s.NightTo, l, light)
			}
		}
		if got := Of(s, dark); !slices.Equal(got, dark) {
			t.Fatalf("%d to %d: %v, asked again %v", s.NightFrom, s.NightTo, dark, got)
		}
		if got := Of(s, light); len(got) > 0 {
			t.Fatalf("%d to %d: %v, not by night, has %v", s.NightFrom, s.NightTo, light, got)
		}
		// The night from its end to its beginning has just the seconds that this one has not, if these two are unlike.
		other := with(s.NightTo, s.NightFrom)
		if got := Of(other, l); s.NightFrom != s.NightTo && !slices.Equal(got, light) {
			t.Fatalf("%d to %d: %v: %v, want %v", other.NightFrom, other.NightTo, l, got, light)
		}
	}
}

// roomy is the spans with spare room behind them, in which there stands what would change the answers; and all of that memory.
func roomy(l []api.Span) (list, all []api.Span) {
	all = append(slices.Clone(l), of(0, end, 3*day, 3*day+9, -7, 7, 9, 2, least, greatest)...)
	return all[:len(l)], all
}

// R3: what is handed in is neither changed nor kept, its spare room included; answers are in memory of their own.
func TestMemory(t *testing.T) {
	for _, s := range []api.Setup{with(79200, 21600), with(100, 200), with(0, day), with(day, 0), with(-1, day)} {
		for _, list := range [][]api.Span{nil, of(100, 200), of(0, day), of(0, end), of(150, 3*day, 5, 9, 8, 8, 50, 1, -5, 4, end-1, greatest)} {
			l, all := roomy(list)
			own(t, s, l, all)
			if setup.Check(s) {
				check(t, "roomy", s, l)
			}
		}
	}
}

// own holds Of against its answers being in memory of their own, apart from one another's, and from all that was handed in.
func own(t *testing.T, s api.Setup, l, all []api.Span) {
	t.Helper()
	was := slices.Clone(all)
	one, two := Of(s, l), Of(s, l)
	want := slices.Clone(two)
	// Whoever has an answer may change it, and all room behind it.
	for i := range one[:cap(one)] {
		one[:cap(one)][i] = api.Span{From: -99, To: 99}
	}
	if !slices.Equal(two, want) {
		t.Errorf("%v: two answers share memory: %v", was, two)
	}
	if !slices.Equal(all, was) {
		t.Errorf("%v: what was handed in was changed: %v", was, all)
	}
	// And whoever handed a list in may change it.
	for i := range all {
		all[i] = api.Span{From: 3, To: 4}
	}
	if !slices.Equal(two, want) {
		t.Errorf("%v: what was handed in is kept: %v", was, two)
	}
	copy(all, was)
	if got := Of(s, l); !slices.Equal(got, want) {
		t.Errorf("%v: asked again: %v, want %v", was, got, want)
	}
}

// R3: a setup that is handed in stays as it was, with the spare room of its lists.
func TestSetupStays(t *testing.T) {
	s := full(79200, 21600)
	rates := []int{1500, 2000, -7, 9}
	tiers := []api.Tier{{Least: 100, Bonus: 150}, {Least: -1, Bonus: -1}}
	s.Rates, s.Tiers = rates[:2], tiers[:1]
	before, e := setup.Write(s)
	Of(s, of(0, end))
	Is(s, 5)
	after, f := setup.Write(s)
	if e != api.OK || f != api.OK || !slices.Equal(before, after) {
		t.Errorf("%v", s)
	}
	if !slices.Equal(rates, []int{1500, 2000, -7, 9}) || !slices.Equal(tiers, []api.Tier{{Least: 100, Bonus: 150}, {Least: -1, Bonus: -1}}) {
		t.Errorf("%v, %v", rates, tiers)
	}
}

// P14.1: as many spans as a long list may have, in a time that does not rise with its square.
func TestMany(t *testing.T) {
	const many = 200000
	var l []api.Span
	for i := many - 1; i >= 0; i-- {
		l = append(l, of(4*i, 4*i+3)...)
	}
	got := Of(with(0, 400), l)
	// Nine days are whole ones, and the tenth one goes on behind its night.
	if len(got) != 10*100 || !isPlain(got) {
		t.Errorf("%d spans", len(got))
	}
	if got := Of(with(0, day), l); !slices.Equal(got, span.Norm(l...)) {
		t.Errorf("%d spans", len(got))
	}
}
