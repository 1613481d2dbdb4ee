package split

import (
	"math"
	"math/rand"
	"slices"
	"strconv"
	"testing"

	"lumper/api"
	"lumper/setup"
	"lumper/span"
	"lumper/stream"
)

const (
	// day, week, end and allWeeks are as the document says them, and so are the categories.
	day      = 86400
	week     = 604800
	end      = 53 * week
	allWeeks = 53
	cats     = 7

	least    = math.MinInt
	greatest = math.MaxInt
)

// hours are the numbers of a setup that tell how seconds are paid.
type hours struct {
	paid, after, auto int // PaidBreak, AutoAfter, AutoBreak
	reg, most, ofWeek int // DayReg, DayOver, WeekReg
	from, to          int // NightFrom, NightTo
}

// setup is a setup, that may be if its hours may.
func (h hours) setup() api.Setup {
	return api.Setup{Places: 1, Pace: api.Ratio{Num: 1, Den: 1}, Unit: 1, Cap: 60, PaidBreak: h.paid, AutoAfter: h.after, AutoBreak: h.auto,
		DayReg: h.reg, DayOver: h.most, WeekReg: h.ofWeek, NightFrom: h.from, NightTo: h.to, Rates: []int{1}}
}

// full is a setup, that may be if its hours may, with some of everything.
func (h hours) full() api.Setup {
	s, third := h.setup(), api.Ratio{Num: 1, Den: 3}
	s.Places, s.Ways, s.Pace, s.Elements = 3, []api.Way{{A: 0, B: 2, Meters: 300}}, third, []api.Element{{Fixed: third, Unit: third}}
	s.Classes, s.Gears, s.Allow, s.Unit, s.Cap = []api.Ratio{third, third}, []api.Ratio{third}, 7, 900, 36000
	s.Rates, s.Diff, s.Least, s.Fault, s.Tiers = []int{1500, 2000}, 75, 725, 60, []api.Tier{{Least: 100, Bonus: 150}}
	return s
}

// text are the numbers of hours.
func (h hours) text() string {
	text := ""
	for _, n := range []int{h.paid, h.after, h.auto, h.reg, h.most, h.ofWeek, h.from, h.to} {
		text += strconv.Itoa(n) + " "
	}
	return text
}

// bright are hours by day alone, of how much is regular on a day, how much is not double, and how much of a week is regular.
func bright(reg, most, ofWeek int) hours { return hours{reg: reg, most: most, ofWeek: ofWeek} }

// until are the same hours, by night from one time on up to another one.
func (h hours) until(from, to int) hours {
	h.from, h.to = from, to
	return h
}

// resting are the same hours, with a paid break of so many seconds, and one that is taken off.
func (h hours) resting(paid, after, auto int) hours {
	h.paid, h.after, h.auto = paid, after, auto
	return h
}

// of is spans, from and to by turns.
func of(l ...int) []api.Span {
	var out []api.Span
	for i := 0; i+1 < len(l); i += 2 {
		out = append(out, api.Span{From: l[i], To: l[i+1]})
	}
	return out
}

// as is parts: from, to and category by turns.
func as(l ...int) []api.Part {
	var out []api.Part
	for i := 0; i+2 < len(l); i += 3 {
		out = append(out, api.Part{From: l[i], To: l[i+1], Cat: l[i+2]})
	}
	return out
}

// work, and the others, are parts of sessions.
func work(from, to int) api.Seg { return api.Seg{From: from, To: to, Kind: api.SDirect, ID: 1} }
func other(from, to int) api.Seg {
	return api.Seg{From: from, To: to, Kind: api.SIndirect, ID: 2, Code: 7}
}
func gap(from, to int) api.Seg  { return api.Seg{From: from, To: to, ID: 3} }
func rest(from, to int) api.Seg { return api.Seg{From: from, To: to, Kind: api.SBreak, ID: 4} }

// list is a list of parts of sessions.
func list(l ...api.Seg) []api.Seg { return l }

// isWeek is what the document says of weeks.
func isWeek(n int) bool { return n >= 0 && n < allWeeks }

// marks are what is so of each second of a day.
type marks [day]bool

// mark tells that the seconds of a part, those of the day that begins at midnight alone, are so.
func (m *marks) mark(p api.Seg, midnight int) {
	for t := max(p.From, midnight); t < min(p.To, midnight+day); t++ {
		m[t-midnight] = true
	}
}

// ofDay are the seconds of the day that begins at midnight: those of the clock, and those that are not paid.
func ofDay(h hours, segs []api.Seg, midnight int) (clock, unpaid marks) {
	var rests marks
	for _, p := range segs {
		clock.mark(p, midnight)
		if p.Kind == 3 {
			rests.mark(p, midnight)
		}
	}
	seconds, resting := 0, 0
	for t := range day {
		if clock[t] {
			seconds++
		}
		if rests[t] {
			resting++
			unpaid[t] = resting > h.paid
		}
	}
	missing := 0
	if seconds >= h.after {
		missing = h.auto - resting
	}
	for t := day - 1; t >= 0 && missing > 0; t-- {
		if clock[t] && !rests[t] {
			unpaid[t] = true
			missing--
		}
	}
	return clock, unpaid
}

// isDark is what the document says of what is by night, so many seconds behind the beginning of the day.
func isDark(h hours, behind int) bool {
	if h.to < h.from {
		return behind >= h.from || behind < h.to
	}
	return behind >= h.from && behind < h.to
}

// some tells whether the day that begins at midnight has seconds of the parts.
func some(segs []api.Seg, midnight int) bool {
	return slices.ContainsFunc(segs, func(p api.Seg) bool { return max(p.From, midnight) < min(p.To, midnight+day) })
}

// said is what the document says of Parts, of a setup that may be: each of the week's seconds is asked for its category.
func said(h hours, segs []api.Seg, n int) []api.Part {
	if !isWeek(n) {
		return nil
	}
	var ofCat [cats][]api.Part
	put := func(t, cat int) {
		l := &ofCat[cat]
		if last := len(*l) - 1; last >= 0 && (*l)[last].To == t {
			(*l)[last].To++
			return
		}
		*l = append(*l, api.Part{From: t, To: t + 1, Cat: cat})
	}
	short := 0
	for midnight := n * week; midnight < n*week+week; midnight += day {
		if !some(segs, midnight) {
			continue
		}
		clock, unpaid := ofDay(h, segs, midnight)
		paid := 0
		for t := range day {
			if !clock[t] {
				continue
			}
			if unpaid[t] {
				put(midnight+t, 0)
				continue
			}
			paid++
			if paid <= h.reg {
				short++
			}
			cat := 3
			switch {
			case paid <= h.reg && short <= h.ofWeek:
				cat = 1
			case paid <= h.most:
				cat = 2
			}
			if isDark(h, t) {
				cat += 3
			}
			put(midnight+t, cat)
		}
	}
	out := slices.Concat(ofCat[:]...)
	slices.SortFunc(out, func(a, b api.Part) int { return a.From - b.From })
	return out
}

// saidTotals is what the document says of Totals: between two bounds next to one another all seconds are alike.
func saidTotals(l []api.Part) [cats]int {
	bounds := []int{0, end}
	for _, p := range l {
		bounds = append(bounds, min(max(p.From, 0), end), min(max(p.To, 0), end))
	}
	slices.Sort(bounds)
	var totals [cats]int
	for cat := range totals {
		for i := range len(bounds) - 1 {
			has := func(p api.Part) bool { return p.Cat == cat && p.From <= bounds[i] && bounds[i] < p.To }
			if slices.ContainsFunc(l, has) {
				totals[cat] += bounds[i+1] - bounds[i]
			}
		}
	}
	return totals
}

// check holds Parts, and the totals of what it answers, against the document's words; the list stays as it was, its spare room included.
func check(t *testing.T, name string, h hours, segs []api.Seg, n int) {
	t.Helper()
	was := slices.Clone(segs[:cap(segs)])
	got, want := Parts(h.setup(), segs, n), said(h, segs, n)
	if !slices.Equal(got, want) {
		t.Fatalf("%s: %s: Parts(%v, %d) = %v, want %v", name, h.text(), segs, n, got, want)
	}
	if sum, want := Totals(got), saidTotals(want); sum != want {
		t.Fatalf("%s: %s: Totals(%v) = %v, want %v", name, h.text(), got, sum, want)
	}
	if !slices.Equal(segs[:cap(segs)], was) {
		t.Fatalf("%s: %v was changed: %v", name, was, segs[:cap(segs)])
	}
}

// known is hours, parts of sessions, a week, and what its seconds are.
type known struct {
	name string
	h    hours
	segs []api.Seg
	n    int
	want []api.Part
}

// byNights are weeks of regular seconds, whose nights alone tell.
func byNights() []known {
	h := bright(day, day, week)
	l := list(work(50, 250))
	return []known{
		{"the chapter's example", bright(28800, 43200, 144000).until(79200, day), list(work(72000, 86400)), 0, as(72000, 79200, 1, 79200, 86400, 4)},
		{"the chapter's example, a night up to the morning", bright(28800, 43200, 144000).until(79200, 21600), list(work(72000, 86400)), 0, as(72000, 79200, 1, 79200, 86400, 4)},
		{"all by day", h.until(300, 400), l, 0, as(50, 250, 1)},
		{"all by night", h.until(20, 400), l, 0, as(50, 250, 4)},
		{"all by night, just the clock", h.until(50, 250), l, 0, as(50, 250, 4)},
		{"the night begins within", h.until(100, 400), l, 0, as(50, 100, 1, 100, 250, 4)},
		{"the night ends within", h.until(20, 100), l, 0, as(50, 100, 4, 100, 250, 1)},
		{"the night lies within", h.until(100, 150), l, 0, as(50, 100, 1, 100, 150, 4, 150, 250, 1)},
		{"a night of one second", h.until(100, 101), l, 0, as(50, 100, 1, 100, 101, 4, 101, 250, 1)},
		{"the night begins where the clock ends", h.until(250, 400), l, 0, as(50, 250, 1)},
		{"the night begins with the last second", h.until(249, 400), l, 0, as(50, 249, 1, 249, 250, 4)},
		{"the night ends where the clock begins", h.until(20, 50), l, 0, as(50, 250, 1)},
		{"the night ends with the first second", h.until(20, 51), l, 0, as(50, 51, 4, 51, 250, 1)},
		{"one second by day", h.until(300, 400), list(work(299, 300)), 0, as(299, 300, 1)},
		{"one second by night", h.until(300, 400), list(work(300, 301)), 0, as(300, 301, 4)},
		{"the last second by night", h.until(300, 400), list(work(399, 400)), 0, as(399, 400, 4)},
		{"one second behind the night", h.until(300, 400), list(work(400, 401)), 0, as(400, 401, 1)},
		{"no night, at 0", h.until(0, 0), l, 0, as(50, 250, 1)},
		{"no night, within", h.until(100, 100), l, 0, as(50, 250, 1)},
		{"no night, at a day's end", h.until(day, day), list(work(0, day)), 0, as(0, day, 1)},
		{"no night, from a day's end up to its beginning", h.until(day, 0), list(work(0, day)), 0, as(0, day, 1)},
		{"a night of a whole day", h.until(0, day), list(work(0, day)), 0, as(0, day, 4)},
		{"a night that ends ahead of its beginning", h.until(200, 100), l, 0, as(50, 100, 4, 100, 200, 1, 200, 250, 4)},
		{"a night of all but one second", h.until(100, 99), l, 0, as(50, 99, 4, 99, 100, 1, 100, 250, 4)},
		{"a night from the first second on, up to 0", h.until(1, 0), list(work(0, 9)), 0, as(0, 1, 1, 1, 9, 4)},
		{"a night from a day's end on, up to a second", h.until(day, 1), list(work(0, 9)), 0, as(0, 1, 4, 1, 9, 1)},
		{"a night across a day's end", h.until(79200, 21600), list(work(70000, day+30000)), 0, as(70000, 79200, 1, 79200, day+21600, 4, day+21600, day+30000, 1)},
		{"a night up to a day's end", h.until(79200, day), list(work(70000, day+30000)), 0, as(70000, 79200, 1, 79200, day, 4, day, day+30000, 1)},
		{"a night from a day's beginning on", h.until(0, 21600), list(work(70000, day+30000)), 0, as(70000, day, 1, day, day+21600, 4, day+21600, day+30000, 1)},
		{"three nights", h.until(79200, 21600), list(work(2*day, 5*day)), 0,
			as(2*day, 2*day+21600, 4, 2*day+21600, 2*day+79200, 1, 2*day+79200, 3*day+21600, 4, 3*day+21600, 3*day+79200, 1, 3*day+79200, 4*day+21600, 4, 4*day+21600, 4*day+79200, 1, 4*day+79200, 5*day, 4)},
		{"whole days by night", h.until(0, day), list(work(2*day, 5*day)), 0, as(2*day, 5*day, 4)},
	}
}

// byHours are weeks that turn from regular to overtime, and from overtime to double.
func byHours() []known {
	h := bright(100, 200, week)
	l := list(work(0, 300))
	return []known{
		{"ten hours", bright(28800, 43200, 144000).until(79200, 21600), list(work(28800, 64800)), 0, as(28800, 57600, 1, 57600, 64800, 2)},
		{"by day", h, l, 0, as(0, 100, 1, 100, 200, 2, 200, 300, 3)},
		{"by night", h.until(0, day), l, 0, as(0, 100, 4, 100, 200, 5, 200, 300, 6)},
		{"by day, up to where regular ends", h, list(work(0, 100)), 0, as(0, 100, 1)},
		{"by day, one second of overtime", h, list(work(0, 101)), 0, as(0, 100, 1, 100, 101, 2)},
		{"by day, up to where overtime ends", h, list(work(0, 200)), 0, as(0, 100, 1, 100, 200, 2)},
		{"by day, one second of double", h, list(work(0, 201)), 0, as(0, 100, 1, 100, 200, 2, 200, 201, 3)},
		{"by night, one second of overtime", h.until(0, day), list(work(0, 101)), 0, as(0, 100, 4, 100, 101, 5)},
		{"by night, one second of double", h.until(0, day), list(work(0, 201)), 0, as(0, 100, 4, 100, 200, 5, 200, 201, 6)},
		{"the night begins just where regular ends", h.until(100, day), l, 0, as(0, 100, 1, 100, 200, 5, 200, 300, 6)},
		{"the night begins one second ahead of where regular ends", h.until(99, day), l, 0, as(0, 99, 1, 99, 100, 4, 100, 200, 5, 200, 300, 6)},
		{"the night begins one second behind where regular ends", h.until(101, day), l, 0, as(0, 100, 1, 100, 101, 2, 101, 200, 5, 200, 300, 6)},
		{"the night begins just where overtime ends", h.until(200, day), l, 0, as(0, 100, 1, 100, 200, 2, 200, 300, 6)},
		{"the night begins one second ahead of where overtime ends", h.until(199, day), l, 0, as(0, 100, 1, 100, 199, 2, 199, 200, 5, 200, 300, 6)},
		{"the night begins one second behind where overtime ends", h.until(201, day), l, 0, as(0, 100, 1, 100, 200, 2, 200, 201, 3, 201, 300, 6)},
		{"the night ends just where regular ends", h.until(0, 100), l, 0, as(0, 100, 4, 100, 200, 2, 200, 300, 3)},
		{"the night ends one second ahead of where regular ends", h.until(0, 99), l, 0, as(0, 99, 4, 99, 100, 1, 100, 200, 2, 200, 300, 3)},
		{"the night ends one second behind where regular ends", h.until(0, 101), l, 0, as(0, 100, 4, 100, 101, 5, 101, 200, 2, 200, 300, 3)},
		{"the night ends just where overtime ends", h.until(0, 200), l, 0, as(0, 100, 4, 100, 200, 5, 200, 300, 3)},
		{"the night ends one second ahead of where overtime ends", h.until(0, 199), l, 0, as(0, 100, 4, 100, 199, 5, 199, 200, 2, 200, 300, 3)},
		{"the night ends one second behind where overtime ends", h.until(0, 201), l, 0, as(0, 100, 4, 100, 200, 5, 200, 201, 6, 201, 300, 3)},
		{"the night is just the overtime", h.until(100, 200), l, 0, as(0, 100, 1, 100, 200, 5, 200, 300, 3)},
		{"the night is all but the overtime", h.until(200, 100), l, 0, as(0, 100, 4, 100, 200, 2, 200, 300, 6)},
		{"the night lies within each of the three by turns", bright(100, 300, week).until(150, 250), l, 0, as(0, 100, 1, 100, 150, 2, 150, 250, 5, 250, 300, 2)},
		{"without regular ones", bright(0, 200, week).until(50, 250), l, 0, as(0, 50, 2, 50, 200, 5, 200, 250, 6, 250, 300, 3)},
		{"double ones alone", bright(0, 0, week).until(50, 250), l, 0, as(0, 50, 3, 50, 250, 6, 250, 300, 3)},
		{"without overtime", bright(100, 100, week).until(50, 250), l, 0, as(0, 50, 1, 50, 100, 4, 100, 250, 6, 250, 300, 3)},
		{"WeekReg ends on the first day, by night", bright(100, 200, 70).until(60, 150), l, 0, as(0, 60, 1, 60, 70, 4, 70, 150, 5, 150, 200, 2, 200, 300, 3)},
		{"WeekReg 0", bright(100, 200, 0).until(60, 150), l, 0, as(0, 60, 2, 60, 150, 5, 150, 200, 2, 200, 300, 3)},
		{"WeekReg ends on the second day", bright(100, 200, 130).until(50, 110), list(work(0, 90), work(day, day+120)), 0,
			as(0, 50, 1, 50, 90, 4, day, day+40, 1, day+40, day+50, 2, day+50, day+110, 5, day+110, day+120, 2)},
		{"six days of eight hours, WeekReg forty hours", bright(28800, 43200, 144000), list(work(0, 28800), work(day, day+28800), work(2*day, 2*day+28800), work(3*day, 3*day+28800), work(4*day, 4*day+28800), work(5*day, 5*day+28800)), 0,
			as(0, 28800, 1, day, day+28800, 1, 2*day, 2*day+28800, 1, 3*day, 3*day+28800, 1, 4*day, 4*day+28800, 1, 5*day, 5*day+28800, 2)},
		{"several spans of a category, with others between them", bright(250, 400, week).until(100, 200), list(work(0, 20), work(50, 120), work(150, 160), work(180, 230), work(300, 550)), 0,
			as(0, 20, 1, 50, 100, 1, 100, 120, 4, 150, 160, 4, 180, 200, 4, 200, 230, 1, 300, 400, 1, 400, 550, 2)},
		{"all seven", sevenHours(), seven(), 0, allSeven()},
	}
}

// sevenHours are hours, and seven is a week, of which seconds are of each category, as allSeven tells.
func sevenHours() hours { return bright(100, 200, week).until(1000, 150) }
func seven() []api.Seg {
	return list(work(0, 300), rest(300, 400), work(980, 1100), other(3*day+500, 3*day+550))
}
func allSeven() []api.Part {
	return as(0, 100, 4, 100, 150, 5, 150, 200, 2, 200, 300, 3, 300, 400, 0, 980, 1000, 3, 1000, 1100, 6, 3*day+500, 3*day+550, 1)
}

// byBreaks are weeks with breaks.
func byBreaks() []known {
	h := bright(1000, 2000, week)
	l := list(work(0, 300), rest(300, 400), other(400, 600))
	return []known{
		{"a paid break", h.resting(100, 0, 0), l, 0, as(0, 600, 1)},
		{"a paid break, with room", h.resting(101, 0, 0), l, 0, as(0, 600, 1)},
		{"a break of one second more than the paid ones", h.resting(99, 0, 0), l, 0, as(0, 399, 1, 399, 400, 0, 400, 600, 1)},
		{"a break without pay", h, l, 0, as(0, 300, 1, 300, 400, 0, 400, 600, 1)},
		{"a break without pay, by night", h.until(0, day), l, 0, as(0, 300, 4, 300, 400, 0, 400, 600, 4)},
		{"a break without pay in which the night begins", h.until(350, day), l, 0, as(0, 300, 1, 300, 400, 0, 400, 600, 4)},
		{"a break without pay that is the night", h.until(300, 400), l, 0, as(0, 300, 1, 300, 400, 0, 400, 600, 1)},
		{"a paid break that is the night", h.resting(100, 0, 0).until(300, 400), l, 0, as(0, 300, 1, 300, 400, 4, 400, 600, 1)},
		{"a break paid in part, in which the night begins", h.resting(60, 0, 0).until(350, day), l, 0, as(0, 350, 1, 350, 360, 4, 360, 400, 0, 400, 600, 4)},
		{"a paid break counts towards DayReg", bright(350, 450, week).resting(100, 0, 0), l, 0, as(0, 350, 1, 350, 450, 2, 450, 600, 3)},
		{"a break without pay does not count towards DayReg", bright(350, 450, week), l, 0, as(0, 300, 1, 300, 400, 0, 400, 450, 1, 450, 550, 2, 550, 600, 3)},
		{"a break without pay does not count towards WeekReg", bright(350, 450, 320), l, 0, as(0, 300, 1, 300, 400, 0, 400, 420, 1, 420, 550, 2, 550, 600, 3)},
		{"regular ends where the break begins", bright(300, 450, week), l, 0, as(0, 300, 1, 300, 400, 0, 400, 550, 2, 550, 600, 3)},
		{"a break that is taken off", h.resting(0, 600, 50), list(work(0, 600)), 0, as(0, 550, 1, 550, 600, 0)},
		{"a clock of one second less than AutoAfter", h.resting(0, 601, 50), list(work(0, 600)), 0, as(0, 600, 1)},
		{"a clock of one second more than AutoAfter", h.resting(0, 599, 50), list(work(0, 600)), 0, as(0, 550, 1, 550, 600, 0)},
		{"a break that is taken off, by night", h.resting(0, 600, 50).until(500, day), list(work(0, 600)), 0, as(0, 500, 1, 500, 550, 4, 550, 600, 0)},
		{"a break that is taken off, all of the night", h.resting(0, 600, 50).until(550, day), list(work(0, 600)), 0, as(0, 550, 1, 550, 600, 0)},
		{"a break that is taken off, of double ones", bright(100, 200, week).resting(0, 600, 50), list(work(0, 600)), 0, as(0, 100, 1, 100, 200, 2, 200, 550, 3, 550, 600, 0)},
		{"what is missing of a break is taken off", h.resting(0, 600, 150), l, 0, as(0, 300, 1, 300, 400, 0, 400, 550, 1, 550, 600, 0)},
		{"a break as long as it is to be", h.resting(0, 600, 100), l, 0, as(0, 300, 1, 300, 400, 0, 400, 600, 1)},
		{"a break that is taken off touches one that is not paid", h.resting(0, 600, 300), l, 0, as(0, 300, 1, 300, 600, 0)},
		{"a break that is taken off goes on ahead of one that is not paid", h.resting(0, 600, 340), l, 0, as(0, 260, 1, 260, 600, 0)},
		{"nothing is paid", h.resting(0, 0, day), l, 0, as(0, 600, 0)},
		{"a break alone, without pay", h, list(rest(70, 90)), 0, as(70, 90, 0)},
		{"a break alone, paid", h.resting(20, 0, 0).until(80, 100), list(rest(70, 90)), 0, as(70, 80, 1, 80, 90, 4)},
		{"PaidBreak of each day", h.resting(30, 0, 0), list(work(0, 50), rest(50, 100), work(day, day+50), rest(day+50, day+100)), 0, as(0, 80, 1, 80, 100, 0, day, day+80, 1, day+80, day+100, 0)},
		{"breaks of the day ahead of the week do not count", h.resting(30, 0, 0), list(rest(week-50, week+50)), 1, as(week, week+30, 1, week+30, week+50, 0)},
	}
}

// byLists are weeks whose parts of sessions come in all ways.
func byLists() []known {
	h := bright(100, 200, week).until(120, 180)
	want := as(0, 100, 1, 100, 120, 2, 120, 180, 5, 180, 200, 2, 200, 250, 3, 250, 260, 0, 260, 300, 3)
	return []known{
		{"as it is", h, list(work(0, 250), rest(250, 260), work(260, 300)), 0, want},
		{"all kinds, that touch", h, list(gap(0, 30), work(30, 110), other(110, 150), gap(150, 250), rest(250, 260), work(260, 300)), 0, want},
		{"unsorted", h, list(work(260, 300), other(110, 150), rest(250, 260), gap(0, 30), gap(150, 250), work(30, 110)), 0, want},
		{"that overlap", h, list(work(0, 200), other(20, 250), rest(250, 260), gap(250, 300), work(90, 270)), 0, want},
		{"the same ones twice", h, list(work(0, 300), rest(250, 260), rest(250, 260), work(0, 300)), 0, want},
		{"empty, and the wrong way round", h, list(work(0, 300), rest(100, 100), rest(90, 20), rest(250, 260), work(900, 400), gap(greatest, least), other(700, 700)), 0, want},
		{"empty, and the wrong way round, alone", h, list(rest(100, 100), rest(90, 20), work(900, 400), gap(greatest, least), other(700, 700)), 0, nil},
		{"kinds that there are not", h, list(api.Seg{From: 0, To: 110, Kind: 4}, api.Seg{From: 110, To: 250, Kind: -3}, rest(250, 260), api.Seg{From: 260, To: 300, Kind: greatest}), 0, want},
		{"none", h, nil, 0, nil},
		{"an empty list", h, []api.Seg{}, 0, nil},
		{"in other weeks alone", h, list(work(0, 300), rest(week-20, week), work(2*week, 2*week+500), work(20*week, 20*week+50)), 1, nil},
		{"in other weeks, and in this one", h, list(work(0, 300), rest(week-20, week), work(2*week, 2*week+500), work(week+500, week+610)), 1, as(week+500, week+600, 1, week+600, week+610, 2)},
	}
}

// acrossEnds are sessions across the ends of days and weeks.
func acrossEnds() []known {
	late := list(work(day-300, day+300))
	turn := list(work(week-300, week+300))
	return []known{
		{"regular ones across a day's end", bright(300, 400, week), late, 0, as(day-300, day+300, 1)},
		{"regular ones across a day's end, by night", bright(300, 400, week).until(79200, 21600), late, 0, as(day-300, day+300, 4)},
		{"overtime across a day's end", bright(0, 300, week), late, 0, as(day-300, day+300, 2)},
		{"overtime across a day's end, by night", bright(0, 300, week).until(79200, 21600), late, 0, as(day-300, day+300, 5)},
		{"double ones across a day's end", bright(0, 0, week), late, 0, as(day-300, day+300, 3)},
		{"double ones across a day's end, by night", bright(0, 0, week).until(79200, 21600), late, 0, as(day-300, day+300, 6)},
		{"unpaid ones across a day's end", bright(300, 400, week).until(79200, 21600), list(work(day-300, day-20), rest(day-20, day+30), work(day+30, day+300)), 0, as(day-300, day-20, 4, day-20, day+30, 0, day+30, day+300, 4)},
		{"a break that is taken off, up to a day's end, and one from it on", bright(day, day, week).resting(0, 300, 50), list(work(day-300, day), rest(day, day+40), work(day+40, day+90)), 0, as(day-300, day-50, 1, day-50, day+40, 0, day+40, day+90, 1)},
		{"the night ends with the day", bright(300, 400, week).until(79200, day), late, 0, as(day-300, day, 4, day, day+300, 1)},
		{"the night begins with the day", bright(300, 400, week).until(0, 21600), late, 0, as(day-300, day, 1, day, day+300, 4)},
		{"each day begins with regular ones again", bright(100, 200, week), late, 0, as(day-300, day-200, 1, day-200, day-100, 2, day-100, day, 3, day, day+100, 1, day+100, day+200, 2, day+200, day+300, 3)},
		{"overtime touches short ones of the next day that are not regular", bright(200, 300, 200).until(79200, 21600), late, 0, as(day-300, day-100, 4, day-100, day+300, 5)},
		{"three days without an end", bright(100, 200, 250), list(work(day-50, 3*day+50)), 0,
			as(day-50, day+100, 1, day+100, day+200, 2, day+200, 2*day, 3, 2*day, 2*day+100, 1, 2*day+100, 2*day+200, 2, 2*day+200, 3*day, 3, 3*day, 3*day+50, 2)},
		{"a session into the next week", bright(day, day, week), turn, 0, as(week-300, week, 1)},
		{"a session out of the week before", bright(day, day, week), turn, 1, as(week, week+300, 1)},
		{"a session into the next week, by night", bright(day, day, week).until(79200, 21600), turn, 0, as(week-300, week, 4)},
		{"a session out of the week before, by night", bright(day, day, week).until(79200, 21600), turn, 1, as(week, week+300, 4)},
		{"a session out of the week before, its hours", bright(100, 200, 80).until(79200, 21600), turn, 1, as(week, week+80, 4, week+80, week+200, 5, week+200, week+300, 6)},
		{"a session into the next week, its hours", bright(100, 200, 80).until(79200, 21600), turn, 0, as(week-300, week-220, 4, week-220, week-100, 5, week-100, week, 6)},
		{"a week behind both", bright(day, day, week), turn, 2, nil},
		{"a break into the next week", bright(day, day, week), list(work(week-300, week-20), rest(week-20, week+30), work(week+30, week+300)), 0, as(week-300, week-20, 1, week-20, week, 0)},
		{"a break out of the week before", bright(day, day, week), list(work(week-300, week-20), rest(week-20, week+30), work(week+30, week+300)), 1, as(week, week+30, 0, week+30, week+300, 1)},
		{"a break that is taken off at a week's end", bright(day, day, week).resting(0, 300, 50), turn, 0, as(week-300, week-50, 1, week-50, week, 0)},
		{"a week that ends where a session begins", bright(day, day, week), list(work(week, week+300)), 0, nil},
		{"a week that begins where a session ends", bright(day, day, week), list(work(week-300, week)), 1, nil},
		{"three weeks without an end", bright(day, day, week), list(work(week-5, 2*week+5)), 1, as(week, 2*week, 1)},
	}
}

// atEnds are sessions at the ends of all time, and behind them, and weeks that there are not.
func atEnds() []known {
	h := bright(10, 20, 15).until(5, day-5)
	all := bright(day, day, week)
	everywhere := list(work(least, greatest), rest(-9, 9), rest(end-9, end+9))
	return []known{
		{"the first week", h, list(work(0, 30), work(day, day+30)), 0, as(0, 5, 1, 5, 10, 4, 10, 20, 5, 20, 30, 6, day, day+5, 1, day+5, day+20, 5, day+20, day+30, 6)},
		{"the last week", h, list(work(end-day-30, end-day), work(end-30, end)), 52,
			as(end-day-30, end-day-20, 4, end-day-20, end-day-10, 5, end-day-10, end-day-5, 6, end-day-5, end-day, 3, end-30, end-25, 4, end-25, end-10, 5, end-10, end-5, 6, end-5, end, 3)},
		{"the first second", all, list(work(0, 1)), 0, as(0, 1, 1)},
		{"the first second, not paid", all, list(rest(0, 1)), 0, as(0, 1, 0)},
		{"the last second", all, list(work(end-1, end)), 52, as(end-1, end, 1)},
		{"the last second, not paid", all, list(rest(end-1, end)), 52, as(end-1, end, 0)},
		{"the last second, by night", all.until(day-1, day), list(work(end-2, end)), 52, as(end-2, end-1, 1, end-1, end, 4)},
		{"the first and the last second, in neither's week", all, list(work(0, 1), rest(end-1, end)), 30, nil},
		{"times below 0 are no seconds", bright(10, 20, week), list(work(-50, 30)), 0, as(0, 10, 1, 10, 20, 2, 20, 30, 3)},
		{"from the least number on", bright(10, 20, week), list(work(least, 30)), 0, as(0, 10, 1, 10, 20, 2, 20, 30, 3)},
		{"breaks below 0 are none", all.resting(10, 0, 0), list(rest(-50, 30)), 0, as(0, 10, 1, 10, 30, 0)},
		{"below 0 alone", all, list(work(-50, 0), rest(least, -7), rest(-9, -1), work(least, least+1)), 0, nil},
		{"below 0 alone, the week of it", all, list(work(-50, 0), rest(least, -7), work(-week, -1)), -1, nil},
		{"times above the end are no seconds", bright(10, 20, week), list(work(end-30, end+50)), 52, as(end-30, end-20, 1, end-20, end-10, 2, end-10, end, 3)},
		{"to the greatest number", bright(10, 20, week), list(work(end-30, greatest)), 52, as(end-30, end-20, 1, end-20, end-10, 2, end-10, end, 3)},
		{"breaks above the end are none", all.resting(10, 0, 0), list(rest(end-30, end+50)), 52, as(end-30, end-20, 1, end-20, end, 0)},
		{"above the end alone", all, list(work(end, end+50), rest(end+day, greatest), work(greatest-1, greatest)), 52, nil},
		{"above the end alone, the week of it", all, list(work(end, end+50), rest(end, greatest)), 53, nil},
		{"a week below 0", all, everywhere, -1, nil},
		{"a week behind the last one", all, everywhere, allWeeks, nil},
		{"the least week", all, everywhere, least, nil},
		{"the greatest week", all, everywhere, greatest, nil},
		{"a week that wraps round to the first one", all, everywhere, 1 << 62, nil},
		{"a week of all seconds", all, everywhere, 30, as(30*week, 31*week, 1)},
		{"a week of all seconds, by night", all.until(0, day), everywhere, 30, as(30*week, 31*week, 4)},
		{"a week of all seconds, not paid", all.resting(0, 0, day), everywhere, 30, as(30*week, 31*week, 0)},
		{"a week of all seconds, one not regular", bright(day, day, week-1), list(work(0, end)), 52, as(52*week, end-1, 1, end-1, end, 2)},
		{"the first week of all, with a break", all, everywhere, 0, as(0, 9, 0, 9, week, 1)},
		{"the last week of all, with a break", all, everywhere, 52, as(52*week, end-9, 1, end-9, end, 0)},
	}
}

// all are the cases whose answers are written out.
func all() []known {
	return slices.Concat(byNights(), byHours(), byBreaks(), byLists(), acrossEnds(), atEnds())
}

// P17.1: weeks whose answers are written out here; of a setup that may be its hours alone tell.
func TestKnown(t *testing.T) {
	for _, c := range all() {
		for _, s := range []api.Setup{c.h.setup(), c.h.full()} {
			if !setup.Check(s) {
				t.Fatalf("%s: the setup may not be", c.name)
			}
			if got := Parts(s, c.segs, c.n); !slices.Equal(got, c.want) {
				t.Errorf("%s: %v, want %v", c.name, got, c.want)
			}
		}
		check(t, c.name, c.h, c.segs, c.n)
	}
}

// P17.1: each of the seven categories by itself, and the totals of its week.
func TestEachCategory(t *testing.T) {
	h := bright(day, day, week)
	for cat, c := range [cats]struct {
		h    hours
		part api.Seg
	}{
		{h, rest(2*week+50, 2*week+90)},
		{h, work(2*week+50, 2*week+90)},
		{bright(0, day, week), work(2*week+50, 2*week+90)},
		{bright(0, 0, week), work(2*week+50, 2*week+90)},
		{h.until(0, day), work(2*week+50, 2*week+90)},
		{bright(0, day, week).until(0, day), work(2*week+50, 2*week+90)},
		{bright(0, 0, week).until(0, day), work(2*week+50, 2*week+90)},
	} {
		got, want := Parts(c.h.setup(), list(c.part), 2), as(2*week+50, 2*week+90, cat)
		if !slices.Equal(got, want) {
			t.Errorf("%d: %v", cat, got)
		}
		var sum [cats]int
		sum[cat] = 40
		if totals := Totals(got); totals != sum {
			t.Errorf("%d: %v", cat, totals)
		}
	}
	if got, want := Totals(allSeven()), [cats]int{100, 50, 50, 120, 100, 50, 100}; got != want {
		t.Errorf("all seven: %v, want %v", got, want)
	}
}

// later are parts of sessions, so many seconds later.
func later(l []api.Seg, n int) []api.Seg {
	l = slices.Clone(l)
	for i := range l {
		l[i].From, l[i].To = l[i].From+n, l[i].To+n
	}
	return l
}

// partsLater are parts, so many seconds later.
func partsLater(l []api.Part, n int) []api.Part {
	l = slices.Clone(l)
	for i := range l {
		l[i].From, l[i].To = l[i].From+n, l[i].To+n
	}
	return l
}

// P17.1: so many weeks later the same is told, in the first week and in the last.
func TestAnyWeek(t *testing.T) {
	for _, c := range all() {
		// What lies within the first three weeks alone may be moved.
		if c.n < 0 || c.n > 2 || slices.ContainsFunc(c.segs, func(p api.Seg) bool { return p.From < 0 || p.To > 3*week }) {
			continue
		}
		for _, weeks := range []int{1, 20, 50 - c.n, 52 - c.n} {
			segs := later(c.segs, weeks*week)
			if got, want := Parts(c.h.setup(), segs, c.n+weeks), partsLater(c.want, weeks*week); !slices.Equal(got, want) {
				t.Errorf("%s: %d weeks later: %v, want %v", c.name, weeks, got, want)
			}
		}
	}
}

// P17.1: weeks that there are not have nothing of parts that reach over all numbers, also where week times Week would wrap round.
func TestNoWeeks(t *testing.T) {
	everywhere := list(work(least, greatest), rest(-9*week, 9), rest(end-9, end+9*week))
	for _, h := range []hours{{}, bright(5, day, 7).until(9, 7), bright(day, day, week).resting(9, 0, day)} {
		for _, n := range []int{least, least + 1, -1 << 62, -1 << 55, -1 << 40, -allWeeks, -2, -1, allWeeks, allWeeks + 1, 2 * allWeeks, 370, 371, 1 << 40, 1 << 54, 1 << 55, 1 << 57, 1 << 62, greatest - 1, greatest} {
			if got := Parts(h.setup(), everywhere, n); len(got) > 0 {
				t.Errorf("%s: week %d: %v", h.text(), n, got)
			}
		}
	}
}

// P17.1: all nights about where regular, overtime, a break and the clock end.
func TestEdges(t *testing.T) {
	// On the first day 30 seconds, 4 of them a break; on the second 50, across their end; and on the last one 7.
	l := list(work(40, 50), work(day-20, day-6), rest(day-6, day-2), work(day-2, day+35), rest(day+20, day+22), other(day+40, day+55), work(6*day, 6*day+7), work(week, week+9))
	nights := []int{0, 1, 6, 7, 34, 35, 45, 54, 55, day - 20, day - 6, day - 4, day - 1, day}
	for _, h := range []hours{bright(10, 25, 25), bright(30, 50, 55).resting(3, 30, 6), bright(7, 7, week).resting(2, 7, 1)} {
		for _, from := range nights {
			for _, to := range nights {
				check(t, "night", h.until(from, to), l, 0)
			}
		}
	}
}

// P17.1: one part, and two, with all edges as their bounds.
func TestBounds(t *testing.T) {
	bounds := []int{least, -1, 0, 1, day - 1, day, week - 1, week, week + 1, end - week, end - 1, end, end + 1, greatest}
	for i, from := range bounds {
		for j, to := range bounds {
			h := bright(10*(i%3), 25+5*(j%4), 30*((i+j)%4)).until(5*(i%5), day-20*(j%2)-9).resting(7*(j%3), 30, 5*(i%4))
			for _, n := range []int{-1, 0, 1, 52, 53} {
				check(t, "one", h, list(work(from, to)), n)
				check(t, "two", h, list(rest(from, to), work(20, 40), work(week-40, week-10), work(end-40, end-5)), n)
			}
		}
	}
}

// drawn are hours by chance, that may be.
func drawn(r *rand.Rand) hours {
	bound := func() int {
		switch r.Intn(6) {
		case 0:
			return []int{0, 1, day - 1, day}[r.Intn(4)]
		case 1:
			return r.Intn(day + 1)
		}
		return r.Intn(150)
	}
	reg, most := bound(), bound()
	h := bright(min(reg, most), max(reg, most), []int{r.Intn(300), r.Intn(week + 1), week, bound()}[r.Intn(4)])
	if r.Intn(3) > 0 {
		h = h.resting([]int{0, r.Intn(60), bound()}[r.Intn(3)], bound(), []int{0, r.Intn(60), bound()}[r.Intn(3)])
	}
	if r.Intn(2) > 0 {
		return h.until(day-r.Intn(100), r.Intn(100))
	}
	return h.until(bound(), bound())
}

// listed is a week, and parts of sessions by chance: that lie close, or about the ends of days and weeks, or reach far, or are none.
func listed(r *rand.Rand) (int, []api.Seg) {
	n := []int{0, 0, 1, 20, 51, 52, 52, r.Intn(allWeeks)}[r.Intn(8)]
	days := []int{n * week, n*week + day, n*week + 6*day, n*week + r.Intn(7)*day}
	bound := func() int {
		base := days[r.Intn(4)]
		switch r.Intn(9) {
		case 0:
			return base + r.Intn(2*day) - day/2
		case 1:
			return base + r.Intn(3)*day
		case 2:
			return n*week + r.Intn(3)*week - week + r.Intn(120) - 60
		}
		return base + r.Intn(200) - 30
	}
	var l []api.Seg
	for range r.Intn(12) {
		p := api.Seg{From: bound(), Kind: []int{0, 1, 1, 1, 2, 3, 3, r.Intn(9) - 2}[r.Intn(8)], ID: r.Intn(9), Code: r.Intn(3)}
		p.To = p.From + r.Intn(90)
		if r.Intn(4) == 0 {
			p.To = bound()
		}
		if r.Intn(6) > 0 && p.From > p.To {
			p.From, p.To = p.To, p.From
		}
		l = append(l, p)
	}
	return n, l
}

// P17.1: lists of several parts, in the week that they are about, and in those next to it.
func TestSome(t *testing.T) {
	r := rand.New(rand.NewSource(171))
	var seen [cats]int
	for i := range 1500 {
		n, l := listed(r)
		h, n := drawn(r), n+[]int{0, 0, 0, 1, -1}[r.Intn(5)]
		check(t, strconv.Itoa(i), h, l, n)
		for _, p := range Parts(h.setup(), l, n) {
			seen[p.Cat]++
		}
	}
	for cat, parts := range seen {
		if parts < 100 {
			t.Errorf("%d parts of %d", parts, cat)
		}
	}
}

// wild is a number of any kind, mostly about those that tell.
func wild(r *rand.Rand) int {
	return []int{0, 1, 3, -1, day, day - 1, day + 1, week, week + 1, end, end - 1, end + 1, least, greatest, 1 << 62, -1 << 62, r.Intn(end), r.Intn(day), r.Int(), -r.Int()}[r.Intn(20)]
}

// P17.1, R1: numbers of all kinds, in setups, in hand-made parts of sessions, and as weeks.
func TestHandMade(t *testing.T) {
	r := rand.New(rand.NewSource(172))
	may := 0
	for range 2000 {
		h := drawn(r)
		if r.Intn(3) == 0 {
			spots := []*int{&h.paid, &h.after, &h.auto, &h.reg, &h.most, &h.ofWeek, &h.from, &h.to}
			for range 1 + r.Intn(3) {
				*spots[r.Intn(len(spots))] = wild(r)
			}
		}
		var l []api.Seg
		for range r.Intn(5) {
			l = append(l, api.Seg{From: wild(r), To: wild(r), Kind: []int{wild(r), r.Intn(4)}[r.Intn(2)], ID: wild(r), Code: wild(r)})
		}
		n := []int{wild(r), r.Intn(allWeeks), 0, 52}[r.Intn(4)]
		if !setup.Check(h.setup()) {
			none(t, "hand-made", h.setup(), l, n)
			continue
		}
		may++
		check(t, "hand-made", h, l, n)
	}
	if may < 500 || may > 1900 {
		t.Errorf("%d setups that may be", may)
	}
}

// none holds a setup that may not be against there being nothing.
func none(t *testing.T, name string, s api.Setup, segs []api.Seg, n int) {
	t.Helper()
	if setup.Check(s) {
		t.Fatalf("%s: the setup may be", name)
	}
	if got := Parts(s, segs, n); len(got) > 0 {
		t.Errorf("%s: Parts(%v, %d) = %v", name, segs, n, got)
	}
}

// noneAtAll holds a setup that may not be against there being nothing of parts of all kinds.
func noneAtAll(t *testing.T, name string, s api.Setup) {
	t.Helper()
	for _, l := range [][]api.Seg{nil, seven(), list(work(0, end)), list(rest(5, 2*day), work(week-9, week+9), rest(end-5, end))} {
		for _, n := range []int{-1, 0, 1, allWeeks - 1, allWeeks} {
			none(t, name, s, l, n)
		}
	}
}

// P17.1: a setup that may not be by its hours alone.
func TestHoursThatMayNotBe(t *testing.T) {
	h := bright(100, 200, 1000).until(79200, 21600).resting(600, 21600, 1800)
	for i, most := range []int{day, day, day, day, day, week, day, day} {
		for _, wrong := range []int{least, -1 << 62, -day, -1, most + 1, end, 1 << 62, greatest} {
			h := h
			*[]*int{&h.paid, &h.after, &h.auto, &h.reg, &h.most, &h.ofWeek, &h.from, &h.to}[i] = wrong
			noneAtAll(t, h.text(), h.setup())
			noneAtAll(t, h.text(), h.full())
		}
	}
	noneAtAll(t, "DayReg one above DayOver", bright(201, 200, week).setup())
}

// P17.1: a setup that may not be by anything else.
func TestSetupsThatMayNotBe(t *testing.T) {
	noneAtAll(t, "a setup without anything", api.Setup{})
	noneAtAll(t, "hours alone", api.Setup{DayReg: 28800, DayOver: 43200, WeekReg: 144000, NightFrom: 79200, NightTo: 21600})
	for name, spoil := range map[string]func(*api.Setup){
		"Places":   func(s *api.Setup) { s.Places = 0 },
		"Ways":     func(s *api.Setup) { s.Ways = []api.Way{{A: 0, B: 0, Meters: 1}} },
		"Pace":     func(s *api.Setup) { s.Pace = api.Ratio{Num: 2, Den: 2} },
		"Elements": func(s *api.Setup) { s.Elements = make([]api.Element, 1) },
		"Classes":  func(s *api.Setup) { s.Classes = make([]api.Ratio, 1) },
		"Gears":    func(s *api.Setup) { s.Gears = make([]api.Ratio, 1) },
		"Allow":    func(s *api.Setup) { s.Allow = 101 },
		"Unit":     func(s *api.Setup) { s.Unit = 0 },
		"Cap":      func(s *api.Setup) { s.Cap = 59 },
		"Rates":    func(s *api.Setup) { s.Rates = nil },
		"Diff":     func(s *api.Setup) { s.Diff = -1 },
		"Least":    func(s *api.Setup) { s.Least = 100001 },
		"Fault":    func(s *api.Setup) { s.Fault = -1 },
		"Tiers":    func(s *api.Setup) { s.Tiers = []api.Tier{{Least: 1}, {Least: 1}} },
	} {
		for _, h := range []hours{{}, sevenHours(), bright(day, day, week)} {
			s := h.setup()
			spoil(&s)
			noneAtAll(t, name, s)
		}
	}
}

// clockOf is the plain spans of the clock's seconds that are the week's.
func clockOf(segs []api.Seg, n int) []api.Span {
	if !isWeek(n) {
		return nil
	}
	return span.And(stream.Clock(segs), of(n*week, n*week+week))
}

// P17.1, P17.3: parts rise, no second is in two of them, those of a category do not touch, they make the clock of the week, and the totals are as many together.
func TestMakeTheWeek(t *testing.T) {
	r := rand.New(rand.NewSource(173))
	for range 3000 {
		h := drawn(r)
		n, l := listed(r)
		got, want := Parts(h.setup(), l, n), clockOf(l, n)
		var ends [cats]int
		var spans []api.Span
		for i, p := range got {
			if p.From >= p.To || p.Cat < 0 || p.Cat >= cats {
				t.Fatalf("%s: %v: week %d: %v is none", h.text(), l, n, p)
			}
			if i > 0 && p.From < got[i-1].To {
				t.Fatalf("%s: %v: week %d: %v does not rise", h.text(), l, n, got)
			}
			if p.From > 0 && p.From == ends[p.Cat] {
				t.Fatalf("%s: %v: week %d: %v has parts of one category that touch", h.text(), l, n, got)
			}
			ends[p.Cat] = p.To
			spans = append(spans, api.Span{From: p.From, To: p.To})
		}
		if made := span.Norm(spans...); !slices.Equal(made, want) {
			t.Fatalf("%s: %v: week %d: %v make %v, want %v", h.text(), l, n, got, made, want)
		}
		sum := 0
		for _, seconds := range Totals(got) {
			sum += seconds
		}
		if sum != span.Size(want) {
			t.Fatalf("%s: %v: week %d: %d seconds, want %d", h.text(), l, n, sum, span.Size(want))
		}
	}
}

// P17.1: a week does not hang on others: what they have beside it, or have no more, changes nothing of it.
func TestWeeksApart(t *testing.T) {
	r := rand.New(rand.NewSource(174))
	for range 2000 {
		s := drawn(r).setup()
		n, l := listed(r)
		want := Parts(s, l, n)
		more := append(slices.Clone(l), work(n*week-r.Intn(2*week), n*week), rest(n*week-90, n*week), work(n*week+week, n*week+week+r.Intn(2*week)), rest(n*week+week, n*week+week+90), work(-5, -1), rest(end, greatest))
		var cut []api.Seg
		for _, p := range l {
			p.From, p.To = max(p.From, n*week), min(p.To, n*week+week)
			cut = append(cut, p)
		}
		for _, other := range [][]api.Seg{more, cut} {
			if got := Parts(s, other, n); !slices.Equal(got, want) {
				t.Fatalf("week %d: of %v %v, of %v %v", n, l, want, other, got)
			}
		}
	}
}

// P17.1: what is by night changes nothing but that a category is 3 more, and nothing of what is unpaid.
func TestNightsApart(t *testing.T) {
	r := rand.New(rand.NewSource(175))
	for range 2000 {
		h := drawn(r)
		n, l := listed(r)
		got, plain, dark := Parts(h.setup(), l, n), Parts(h.until(0, 0).setup(), l, n), Parts(h.until(0, day).setup(), l, n)
		for i := range got {
			if got[i].Cat > 3 {
				got[i].Cat -= 3
			}
		}
		for i := range dark {
			if dark[i].Cat > 0 {
				dark[i].Cat -= 3
			}
		}
		if !slices.Equal(dark, plain) {
			t.Fatalf("%s: %v: week %d: all by night %v, all by day %v", h.text(), l, n, dark, plain)
		}
		if a, b := Totals(got), Totals(plain); a != b {
			t.Fatalf("%s: %v: week %d: %v, all by day %v", h.text(), l, n, a, b)
		}
	}
}

// P17.1, R4: the same seconds have the same answer, however they are told: in another order, in pieces, with nothing beside them.
func TestSameSeconds(t *testing.T) {
	r := rand.New(rand.NewSource(176))
	for range 2000 {
		s := drawn(r).setup()
		n, l := listed(r)
		more := append(list(rest(9, 9), rest(7, 3), work(-5, 0), rest(end, end+9)), l...)
		for _, p := range l {
			if p.From < p.To {
				first, second := p, p
				first.To = p.From + r.Intn(p.To-p.From)
				second.From, second.ID = first.To, 99
				more = append(more, second, first)
			}
		}
		r.Shuffle(len(more), func(i, j int) { more[i], more[j] = more[j], more[i] })
		if a, b := Parts(s, l, n), Parts(s, slices.Clip(more), n); !slices.Equal(a, b) {
			t.Fatalf("week %d: %v, %v: %v, %v", n, l, more, a, b)
		}
	}
}

// sums are parts, and how many seconds there are of each category.
type sums struct {
	name string
	l    []api.Part
	want [cats]int
}

// knownSums are parts whose totals are written out.
func knownSums() []sums {
	return []sums{
		{"no parts", nil, [cats]int{}},
		{"an empty list", []api.Part{}, [cats]int{}},
		{"one part", as(5, 12, 3), [cats]int{3: 7}},
		{"one second", as(5, 6, 0), [cats]int{0: 1}},
		{"one of each", as(0, 1, 0, 10, 12, 1, 20, 23, 2, 30, 34, 3, 40, 45, 4, 50, 56, 5, 60, 67, 6), [cats]int{1, 2, 3, 4, 5, 6, 7}},
		{"one of each, the other way", as(60, 67, 6, 50, 56, 5, 40, 45, 4, 30, 34, 3, 20, 23, 2, 10, 12, 1, 0, 1, 0), [cats]int{1, 2, 3, 4, 5, 6, 7}},
		{"several of one", as(0, 10, 2, 50, 60, 2, 100, 105, 2), [cats]int{2: 25}},
		{"that touch", as(0, 10, 2, 10, 20, 2), [cats]int{2: 20}},
		{"that overlap within one category", as(0, 10, 1, 5, 12, 1), [cats]int{1: 12}},
		{"one within another one", as(0, 100, 1, 5, 12, 1), [cats]int{1: 100}},
		{"the same twice", as(5, 12, 6, 5, 12, 6), [cats]int{6: 7}},
		{"that overlap in two categories", as(0, 10, 1, 5, 12, 4), [cats]int{1: 10, 4: 7}},
		{"the same in all seven", as(5, 9, 0, 5, 9, 1, 5, 9, 2, 5, 9, 3, 5, 9, 4, 5, 9, 5, 5, 9, 6), [cats]int{4, 4, 4, 4, 4, 4, 4}},
		{"unsorted", as(90, 95, 1, 3, 8, 0, 20, 30, 1, 1, 5, 0), [cats]int{7, 15}},
		{"empty", as(5, 5, 1, 0, 0, 0, end, end, 6), [cats]int{}},
		{"an end ahead of the beginning", as(20, 15, 2, greatest, least, 0), [cats]int{}},
		{"such ones take nothing of others", as(0, 30, 2, 20, 15, 2, 5, 5, 2), [cats]int{2: 30}},
		{"a category below 0", as(0, 9, -1, 0, 9, -7), [cats]int{}},
		{"a category of 7, and above", as(0, 9, 7, 0, 9, 8, 0, 9, 14), [cats]int{}},
		{"the least and the greatest category", as(0, 9, least, 0, 9, greatest, 0, 9, 1<<62, 0, 9, 1<<32, 0, 9, 1<<8), [cats]int{}},
		{"such ones beside those that there are", as(0, 9, -1, 0, 5, 0, 0, 6, 6, 0, 9, 7), [cats]int{0: 5, 6: 6}},
		{"times below 0", as(-5, 3, 6, -9, 0, 5, least, -1, 4), [cats]int{6: 3}},
		{"times above the end", as(end-3, end+5, 6, end, end+9, 5, end+1, greatest, 4), [cats]int{6: 3}},
		{"the first and the last second", as(0, 1, 0, end-1, end, 0), [cats]int{0: 2}},
		{"all time", as(least, greatest, 0, 0, end, 1, -1, end+1, 6), [cats]int{0: end, 1: end, 6: end}},
		{"parts of several weeks", as(week-5, week+5, 1, 3*week, 3*week+2, 1), [cats]int{1: 12}},
	}
}

// checkTotals holds Totals against the document's words; the list stays as it was, its spare room included.
func checkTotals(t *testing.T, name string, l []api.Part) {
	t.Helper()
	was := slices.Clone(l[:cap(l)])
	if got, want := Totals(l), saidTotals(l); got != want {
		t.Fatalf("%s: Totals(%v) = %v, want %v", name, l, got, want)
	}
	if !slices.Equal(l[:cap(l)], was) {
		t.Fatalf("%s: %v was changed: %v", name, was, l[:cap(l)])
	}
}

// P17.2: totals that are written out here.
func TestKnownTotals(t *testing.T) {
	for _, c := range knownSums() {
		if got := Totals(c.l); got != c.want {
			t.Errorf("%s: %v, want %v", c.name, got, c.want)
		}
		checkTotals(t, c.name, c.l)
	}
}

// P17.2, R1: totals of parts by chance, that lie close, and of hand-made ones with numbers of all kinds.
func TestSomeTotals(t *testing.T) {
	r := rand.New(rand.NewSource(177))
	for i := range 6000 {
		var l []api.Part
		for range r.Intn(14) {
			p := api.Part{From: r.Intn(120) - 20, Cat: r.Intn(9) - 1}
			p.To = p.From + r.Intn(40) - 5
			if r.Intn(8) == 0 {
				p = api.Part{From: wild(r), To: wild(r), Cat: []int{wild(r), r.Intn(7)}[r.Intn(2)]}
			}
			l = append(l, p)
		}
		checkTotals(t, strconv.Itoa(i), l)
	}
}

// P17.2: with all edges as a part's bounds, of each category about those that there are.
func TestTotalsOfBounds(t *testing.T) {
	bounds := []int{least, -1, 0, 1, day, week - 1, week, end - 1, end, end + 1, greatest}
	for _, from := range bounds {
		for _, to := range bounds {
			for cat := -2; cat < cats+2; cat++ {
				checkTotals(t, "a bound", as(from, to, cat, 5, 9, 3, end-7, end-3, 6))
			}
		}
	}
}

// P17.2, R4: the same parts in another order, and in pieces, have the same totals.
func TestSameTotals(t *testing.T) {
	r := rand.New(rand.NewSource(178))
	for _, c := range knownSums() {
		l := append(as(9, 9, 1, 7, 3, 0, -5, 0, 6, end, end+9, 2, 0, 99, 7, 0, 99, -1), c.l...)
		for _, p := range c.l {
			if p.From >= 0 && p.To-p.From > 1 {
				at := p.From + 1 + r.Intn(p.To-p.From-1)
				l = append(l, as(at, p.To, p.Cat, p.From, at, p.Cat)...)
			}
		}
		r.Shuffle(len(l), func(i, j int) { l[i], l[j] = l[j], l[i] })
		if got := Totals(l); got != c.want {
			t.Errorf("%s: %v: %v, want %v", c.name, l, got, c.want)
		}
	}
}

// roomy are parts of sessions with spare room behind them, in which there stands what would change the answers; and all of that memory.
func roomy(l []api.Seg) (short, memory []api.Seg) {
	memory = append(slices.Clone(l), work(0, end), rest(3*day, 3*day+9), gap(-7, 7), rest(9, 2), other(least, greatest))
	return memory[:len(l)], memory
}

// P17.1, R3: what is handed in is neither changed nor kept, its spare room included; answers are in memory of their own.
func TestMemory(t *testing.T) {
	for _, c := range all() {
		l, memory := roomy(c.segs)
		was := slices.Clone(memory)
		s := c.h.setup()
		one, two := Parts(s, l, c.n), Parts(s, l, c.n)
		for i := range one[:cap(one)] {
			one[:cap(one)][i] = api.Part{From: -99, To: 99, Cat: 9}
		}
		if !slices.Equal(two, c.want) {
			t.Errorf("%s: two answers share memory: %v", c.name, two)
		}
		if !slices.Equal(memory, was) {
			t.Errorf("%s: what was handed in was changed: %v", c.name, memory)
		}
		// And whoever handed a list in may change it.
		for i := range memory {
			memory[i] = rest(3, 4)
		}
		if !slices.Equal(two, c.want) {
			t.Errorf("%s: what was handed in is kept: %v", c.name, two)
		}
		copy(memory, was)
		if got := Parts(s, l, c.n); !slices.Equal(got, c.want) {
			t.Errorf("%s: asked again: %v, want %v", c.name, got, c.want)
		}
	}
}

// P17.2, R3: parts that are handed to Totals stay as they were, their spare room included, and are not kept.
func TestTotalsMemory(t *testing.T) {
	for _, c := range knownSums() {
		memory := append(slices.Clone(c.l), as(0, end, 0, 0, end, 1, 9, 2, 3, -7, 7, 6, least, greatest, 4)...)
		l, was := memory[:len(c.l)], slices.Clone(memory)
		got := Totals(l)
		if !slices.Equal(memory, was) {
			t.Errorf("%s: what was handed in was changed: %v", c.name, memory)
		}
		for i := range memory {
			memory[i] = api.Part{From: 3, To: 4, Cat: 5}
		}
		if copy(memory, was); got != c.want || Totals(l) != c.want {
			t.Errorf("%s: %v, again %v, want %v", c.name, got, Totals(l), c.want)
		}
	}
}

// R3: a setup that is handed in stays as it was, with the spare room of its lists, and is not kept.
func TestSetupStays(t *testing.T) {
	s := sevenHours().full()
	rates := []int{1500, 2000, -7, 9}
	tiers := []api.Tier{{Least: 100, Bonus: 150}, {Least: -1, Bonus: -1}}
	s.Rates, s.Tiers = rates[:2], tiers[:1]
	before, e := setup.Write(s)
	Parts(s, seven(), 0)
	after, f := setup.Write(s)
	if e != api.OK || f != api.OK || !slices.Equal(before, after) {
		t.Errorf("%v", s)
	}
	if !slices.Equal(rates, []int{1500, 2000, -7, 9}) || !slices.Equal(tiers, []api.Tier{{Least: 100, Bonus: 150}, {Least: -1, Bonus: -1}}) {
		t.Errorf("%v, %v", rates, tiers)
	}
	s.DayReg, s.DayOver, s.NightFrom, s.NightTo = 0, 0, 0, 0
	if got, want := Parts(s, seven(), 0), as(0, 300, 3, 300, 400, 0, 980, 1100, 3, 3*day+500, 3*day+550, 3); !slices.Equal(got, want) {
		t.Errorf("%v, want %v", got, want)
	}
}

// P17.1, P17.2: as many parts as a long list may have, in a time that does not rise with their square.
func TestMany(t *testing.T) {
	var l []api.Seg
	for i := week/2 - 1; i >= 0; i-- {
		l = append(l, work(2*i, 2*i+1))
	}
	for i := range week / 700 {
		l = append(l, rest(700*i, 700*i+1))
	}
	// Each day has 43200 seconds, of which the breaks are not paid; DayReg and DayOver end by night, and WeekReg is more than there are.
	h := bright(21600, 36000, week).until(30000, 80000)
	parts := Parts(h.setup(), l, 0)
	var sum [cats]int
	for _, p := range said(h, l, 0) {
		sum[p.Cat] += p.To - p.From
	}
	if len(parts) != week/2 || Totals(parts) != sum {
		t.Errorf("%d parts, %v, want %v", len(parts), Totals(parts), sum)
	}
	if got := Parts(h.setup(), l, 1); len(got) > 0 {
		t.Errorf("the next week: %d parts", len(got))
	}
}
