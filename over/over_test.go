package over

import (
	"math"
	"math/rand"
	"slices"
	"strconv"
	"testing"

	"lumper/api"
	"lumper/setup"
	"lumper/span"
)

const (
	// day, week, end and allWeeks are as the document says them.
	day      = 86400
	week     = 604800
	end      = 53 * week
	allWeeks = 53

	least    = math.MinInt
	greatest = math.MaxInt
)

// with is a setup, that may be if its hours may, of how much is regular on a day, how much is not double, and how much of a week is regular.
func with(reg, most, ofWeek int) api.Setup {
	return api.Setup{Places: 1, Pace: api.Ratio{Num: 1, Den: 1}, Unit: 1, Cap: 60, DayReg: reg, DayOver: most, WeekReg: ofWeek, Rates: []int{1}}
}

// full is a setup, that may be, with some of everything.
func full(reg, most, ofWeek int) api.Setup {
	third := api.Ratio{Num: 1, Den: 3}
	return api.Setup{Places: 3, Ways: []api.Way{{A: 0, B: 2, Meters: 300}}, Pace: third, Elements: []api.Element{{Fixed: third, Unit: third}},
		Classes: []api.Ratio{third, third}, Gears: []api.Ratio{third}, Allow: 7, Unit: 900, Cap: 36000, PaidBreak: 600, AutoAfter: 21600, AutoBreak: 1800,
		DayReg: reg, DayOver: most, WeekReg: ofWeek, NightFrom: 79200, NightTo: 21600, Rates: []int{1500, 2000}, Diff: 75, Least: 725, Fault: 60,
		Tiers: []api.Tier{{Least: 100, Bonus: 150}}}
}

// of is spans, from and to by turns.
func of(l ...int) []api.Span {
	var out []api.Span
	for i := 0; i+1 < len(l); i += 2 {
		out = append(out, api.Span{From: l[i], To: l[i+1]})
	}
	return out
}

// later is the spans, so many seconds later.
func later(l []api.Span, n int) []api.Span {
	var out []api.Span
	for _, s := range l {
		out = append(out, api.Span{From: s.From + n, To: s.To + n})
	}
	return out
}

// isWeek is what the document says of weeks.
func isWeek(n int) bool { return n >= 0 && n < allWeeks }

// marked are the seconds of a day that a list has; the day begins at from.
func marked(l []api.Span, from int) *[day]bool {
	var has [day]bool
	for _, s := range l {
		for t := max(s.From, from); t < min(s.To, from+day); t++ {
			has[t-from] = true
		}
	}
	return &has
}

// some tells whether the day that begins at from has seconds of the list.
func some(l []api.Span, from int) bool {
	return slices.ContainsFunc(l, func(s api.Span) bool { return max(s.From, from) < min(s.To, from+day) })
}

// put is plain spans with one more second, which is behind them.
func put(l []api.Span, t int) []api.Span {
	if last := len(l) - 1; last >= 0 && l[last].To == t {
		l[last].To++
		return l
	}
	return append(l, api.Span{From: t, To: t + 1})
}

// answer is the three lists of an answer: what is regular, overtime, and double.
type answer [3][]api.Span

// asked is what Of answers.
func asked(s api.Setup, l []api.Span, n int) answer {
	reg, over, double := Of(s, l, n)
	return answer{reg, over, double}
}

// is tells whether an answer is another one.
func (a answer) is(b answer) bool {
	return slices.EqualFunc(a[:], b[:], slices.Equal[[]api.Span])
}

// text is an answer as a text.
func (a answer) text() string {
	text := ""
	for _, l := range a {
		for _, s := range l {
			text += strconv.Itoa(s.From) + " to " + strconv.Itoa(s.To) + " "
		}
		text += "/ "
	}
	return text
}

// each is an answer of which each list is changed by a function.
func (a answer) each(change func(l []api.Span) []api.Span) answer {
	return answer{change(a[0]), change(a[1]), change(a[2])}
}

// later is an answer, so many seconds later.
func (a answer) later(n int) answer {
	return a.each(func(l []api.Span) []api.Span { return later(l, n) })
}

// within is what an answer has of these seconds.
func (a answer) within(hours []api.Span) answer {
	return a.each(func(l []api.Span) []api.Span { return span.And(l, hours) })
}

// copied is an answer in memory of its own.
func (a answer) copied() answer {
	return a.each(slices.Clone[[]api.Span])
}

// sizes are how many seconds each list of an answer has.
func (a answer) sizes() []int {
	return []int{span.Size(a[0]), span.Size(a[1]), span.Size(a[2])}
}

// said is what the document says of Of, of a setup that may be: the week's seconds are counted one by one.
func said(s api.Setup, l []api.Span, n int) answer {
	var a answer
	if !isWeek(n) {
		return a
	}
	short := 0
	for from := n * week; from < n*week+week; from += day {
		if !some(l, from) {
			continue
		}
		ofDay := 0
		for t, has := range marked(l, from) {
			if !has {
				continue
			}
			ofDay++
			isShort := ofDay <= s.DayReg
			if isShort {
				short++
			}
			which := 2
			switch {
			case isShort && short <= s.WeekReg:
				which = 0
			case ofDay <= s.DayOver:
				which = 1
			}
			a[which] = put(a[which], from+t)
		}
	}
	return a
}

// told are the numbers of a setup's hours.
func told(s api.Setup) string {
	return strconv.Itoa(s.DayReg) + ", " + strconv.Itoa(s.DayOver) + ", " + strconv.Itoa(s.WeekReg)
}

// check holds Of against the document's words; the list stays as it was, its spare room included.
func check(t *testing.T, name string, s api.Setup, l []api.Span, n int) {
	t.Helper()
	was := slices.Clone(l[:cap(l)])
	if got, want := asked(s, l, n), said(s, l, n); !got.is(want) {
		t.Fatalf("%s: %s: Of(%v, %d) = %s, want %s", name, told(s), l, n, got.text(), want.text())
	}
	if !slices.Equal(l[:cap(l)], was) {
		t.Fatalf("%s: %v was changed: %v", name, was, l[:cap(l)])
	}
}

// known is hours, spans, a week, and what its seconds are.
type known struct {
	name              string
	reg, most, ofWeek int
	l                 []api.Span
	n                 int
	want              answer
}

// shift is a clock of 1000 seconds, in three spans.
func shift() []api.Span { return of(1000, 1300, 1500, 1900, 2000, 2300) }

// ofDays are weeks of one day, whose hours alone tell.
func ofDays() []known {
	return []known{
		{"the chapter's example", 28800, 43200, 144000, of(0, 50000), 0, answer{of(0, 28800), of(28800, 43200), of(43200, 50000)}},
		{"ten hours", 28800, 43200, 144000, of(28800, 64800), 0, answer{of(28800, 57600), of(57600, 64800), nil}},
		{"one fewer than DayReg", 1001, 2000, week, shift(), 0, answer{shift(), nil, nil}},
		{"as many as DayReg", 1000, 2000, week, shift(), 0, answer{shift(), nil, nil}},
		{"one more than DayReg", 999, 2000, week, shift(), 0, answer{of(1000, 1300, 1500, 1900, 2000, 2299), of(2299, 2300), nil}},
		{"one fewer than DayOver", 100, 1001, week, shift(), 0, answer{of(1000, 1100), of(1100, 1300, 1500, 1900, 2000, 2300), nil}},
		{"as many as DayOver", 100, 1000, week, shift(), 0, answer{of(1000, 1100), of(1100, 1300, 1500, 1900, 2000, 2300), nil}},
		{"one more than DayOver", 100, 999, week, shift(), 0, answer{of(1000, 1100), of(1100, 1300, 1500, 1900, 2000, 2299), of(2299, 2300)}},
		{"DayReg ends within a span, and DayOver within another one", 400, 800, week, shift(), 0, answer{of(1000, 1300, 1500, 1600), of(1600, 1900, 2000, 2100), of(2100, 2300)}},
		{"both end within one span", 400, 500, week, shift(), 0, answer{of(1000, 1300, 1500, 1600), of(1600, 1700), of(1700, 1900, 2000, 2300)}},
		{"both end between two spans", 300, 700, week, shift(), 0, answer{of(1000, 1300), of(1500, 1900), of(2000, 2300)}},
		{"DayReg ends between two spans", 700, 800, week, shift(), 0, answer{of(1000, 1300, 1500, 1900), of(2000, 2100), of(2100, 2300)}},
		{"DayOver ends between two spans", 500, 700, week, shift(), 0, answer{of(1000, 1300, 1500, 1700), of(1700, 1900), of(2000, 2300)}},
		{"one second of each", 1, 2, week, of(5, 8), 0, answer{of(5, 6), of(6, 7), of(7, 8)}},
		{"one second", 1, 2, week, of(5, 6), 0, answer{of(5, 6), nil, nil}},
		{"one second, DayReg 0", 0, 1, week, of(5, 6), 0, answer{nil, of(5, 6), nil}},
		{"one second, DayOver 0", 0, 0, week, of(5, 6), 0, answer{nil, nil, of(5, 6)}},
		{"DayReg 0", 0, 500, week, shift(), 0, answer{nil, of(1000, 1300, 1500, 1700), of(1700, 1900, 2000, 2300)}},
		{"DayOver 0", 0, 0, week, shift(), 0, answer{nil, nil, shift()}},
		{"DayReg as great as DayOver", 500, 500, week, shift(), 0, answer{of(1000, 1300, 1500, 1700), nil, of(1700, 1900, 2000, 2300)}},
		{"DayReg one below DayOver", 499, 500, week, shift(), 0, answer{of(1000, 1300, 1500, 1699), of(1699, 1700), of(1700, 1900, 2000, 2300)}},
		{"both as great as a day", day, day, week, of(0, day), 0, answer{of(0, day), nil, nil}},
		{"both one below a day", day - 1, day - 1, week, of(0, day), 0, answer{of(0, day-1), nil, of(day-1, day)}},
		{"DayOver as great as a day", 100, day, week, of(0, day), 0, answer{of(0, 100), of(100, day), nil}},
		{"DayOver one below a day", 100, day - 1, week, of(0, day), 0, answer{of(0, 100), of(100, day-1), of(day-1, day)}},
		{"spans that touch", 400, 800, week, of(0, 300, 300, 700, 700, 1000), 0, answer{of(0, 400), of(400, 800), of(800, 1000)}},
		{"spans that overlap", 400, 800, week, of(0, 600, 500, 900, 200, 300, 850, 1000), 0, answer{of(0, 400), of(400, 800), of(800, 1000)}},
		{"the same span twice", 400, 800, week, of(0, 1000, 0, 1000), 0, answer{of(0, 400), of(400, 800), of(800, 1000)}},
		{"unsorted", 400, 800, week, of(2000, 2300, 1000, 1300, 1500, 1900), 0, answer{of(1000, 1300, 1500, 1600), of(1600, 1900, 2000, 2100), of(2100, 2300)}},
		{"empty, and the wrong way round", 5, 8, week, of(70, 70, 90, 20, greatest, least, 0, 0, 100, 110), 0, answer{of(100, 105), of(105, 108), of(108, 110)}},
		{"empty, and the wrong way round, alone", 5, 8, week, of(70, 70, 90, 20, greatest, least, 0, 0), 0, answer{}},
		{"no spans", 5, 8, week, nil, 0, answer{}},
		{"an empty list", 5, 8, week, []api.Span{}, 0, answer{}},
		{"no spans, the greatest hours", day, day, week, nil, 0, answer{}},
		{"no spans, no hours", 0, 0, 0, nil, 0, answer{}},
	}
}

// threeDays is 100 seconds on each of three days, in two spans each.
func threeDays() []api.Span {
	return of(10, 70, 80, 120, 2*day+10, 2*day+70, 2*day+80, 2*day+120, 6*day+10, 6*day+70, 6*day+80, 6*day+120)
}

// ofWeeks are weeks whose WeekReg tells too.
func ofWeeks() []known {
	short := of(10, 60, 2*day+10, 2*day+60, 6*day+10, 6*day+60)
	long := of(60, 70, 80, 90, 2*day+60, 2*day+70, 2*day+80, 2*day+90, 6*day+60, 6*day+70, 6*day+80, 6*day+90)
	last := of(90, 120, 2*day+90, 2*day+120, 6*day+90, 6*day+120)
	return []known{
		{"short ones, one fewer than WeekReg", 50, 70, 151, threeDays(), 0, answer{short, long, last}},
		{"short ones, as many as WeekReg", 50, 70, 150, threeDays(), 0, answer{short, long, last}},
		{"short ones, one more than WeekReg", 50, 70, 149, threeDays(), 0, answer{of(10, 60, 2*day+10, 2*day+60, 6*day+10, 6*day+59), of(60, 70, 80, 90, 2*day+60, 2*day+70, 2*day+80, 2*day+90, 6*day+59, 6*day+70, 6*day+80, 6*day+90), last}},
		{"WeekReg ends within a span", 50, 70, 75, threeDays(), 0, answer{of(10, 60, 2*day+10, 2*day+35), of(60, 70, 80, 90, 2*day+35, 2*day+70, 2*day+80, 2*day+90, 6*day+10, 6*day+70, 6*day+80, 6*day+90), last}},
		{"WeekReg ends at a span's end", 80, 90, 60, threeDays(), 0, answer{of(10, 70), of(80, 110, 2*day+10, 2*day+70, 2*day+80, 2*day+110, 6*day+10, 6*day+70, 6*day+80, 6*day+110), of(110, 120, 2*day+110, 2*day+120, 6*day+110, 6*day+120)}},
		{"WeekReg ends one behind a span's end", 80, 90, 61, threeDays(), 0, answer{of(10, 70, 80, 81), of(81, 110, 2*day+10, 2*day+70, 2*day+80, 2*day+110, 6*day+10, 6*day+70, 6*day+80, 6*day+110), of(110, 120, 2*day+110, 2*day+120, 6*day+110, 6*day+120)}},
		{"WeekReg ends one ahead of a span's end", 80, 90, 59, threeDays(), 0, answer{of(10, 69), of(69, 70, 80, 110, 2*day+10, 2*day+70, 2*day+80, 2*day+110, 6*day+10, 6*day+70, 6*day+80, 6*day+110), of(110, 120, 2*day+110, 2*day+120, 6*day+110, 6*day+120)}},
		{"WeekReg ends with a day", 50, 70, 100, threeDays(), 0, answer{of(10, 60, 2*day+10, 2*day+60), of(60, 70, 80, 90, 2*day+60, 2*day+70, 2*day+80, 2*day+90, 6*day+10, 6*day+70, 6*day+80, 6*day+90), last}},
		{"WeekReg ends one behind a day", 50, 70, 101, threeDays(), 0, answer{of(10, 60, 2*day+10, 2*day+60, 6*day+10, 6*day+11), of(60, 70, 80, 90, 2*day+60, 2*day+70, 2*day+80, 2*day+90, 6*day+11, 6*day+70, 6*day+80, 6*day+90), last}},
		{"WeekReg ends with the first day, of short ones alone", 100, 100, 100, threeDays(), 0, answer{of(10, 70, 80, 120), of(2*day+10, 2*day+70, 2*day+80, 2*day+120, 6*day+10, 6*day+70, 6*day+80, 6*day+120), nil}},
		{"WeekReg 0", 50, 70, 0, threeDays(), 0, answer{nil, of(10, 70, 80, 90, 2*day+10, 2*day+70, 2*day+80, 2*day+90, 6*day+10, 6*day+70, 6*day+80, 6*day+90), last}},
		{"WeekReg 1", 50, 70, 1, threeDays(), 0, answer{of(10, 11), of(11, 70, 80, 90, 2*day+10, 2*day+70, 2*day+80, 2*day+90, 6*day+10, 6*day+70, 6*day+80, 6*day+90), last}},
		{"WeekReg 0, the greatest hours of a day", day, day, 0, threeDays(), 0, answer{nil, threeDays(), nil}},
		{"WeekReg 0, DayOver 0", 0, 0, 0, threeDays(), 0, answer{nil, nil, threeDays()}},
		{"WeekReg 0, DayReg as great as DayOver", 50, 50, 0, threeDays(), 0, answer{nil, short, of(60, 70, 80, 120, 2*day+60, 2*day+70, 2*day+80, 2*day+120, 6*day+60, 6*day+70, 6*day+80, 6*day+120)}},
		{"long ones, and last ones, do not count towards WeekReg", 50, 70, 100, of(0, 500, 2*day, 2*day+500), 0, answer{of(0, 50, 2*day, 2*day+50), of(50, 70, 2*day+50, 2*day+70), of(70, 500, 2*day+70, 2*day+500)}},
		{"DayReg 0 makes none short, whatever WeekReg is", 0, 70, week, threeDays(), 0, answer{nil, of(10, 70, 80, 90, 2*day+10, 2*day+70, 2*day+80, 2*day+90, 6*day+10, 6*day+70, 6*day+80, 6*day+90), last}},
		{"five days of eight hours, WeekReg forty hours", 28800, 43200, 144000, ofHours(5, 28800), 0, answer{ofHours(5, 28800), nil, nil}},
		{"six days of eight hours, WeekReg forty hours", 28800, 43200, 144000, ofHours(6, 28800), 0, answer{ofHours(5, 28800), of(5*day, 5*day+28800), nil}},
		{"told unsorted, the first days are regular", 50, 70, 75, of(6*day, 6*day+60, 3*day, 3*day+60, 0, 60), 0, answer{of(0, 50, 3*day, 3*day+25), of(50, 60, 3*day+25, 3*day+60, 6*day, 6*day+60), nil}},
	}
}

// ofHours is so many days, from the first one on, with so many seconds at the beginning of each.
func ofHours(days, seconds int) []api.Span {
	var l []api.Span
	for n := range days {
		l = append(l, of(n*day, n*day+seconds)...)
	}
	return l
}

// acrossEnds are spans across the ends of days and weeks.
func acrossEnds() []known {
	night := of(day-300, day+300)
	return []known{
		{"a span across a day's end, short on both days", 300, 300, week, night, 0, answer{night, nil, nil}},
		{"a span across a day's end, long on both days", 100, 300, week, night, 0, answer{of(day-300, day-200, day, day+100), of(day-200, day, day+100, day+300), nil}},
		{"a span across a day's end, double on both days", 100, 200, week, night, 0, answer{of(day-300, day-200, day, day+100), of(day-200, day-100, day+100, day+200), of(day-100, day, day+200, day+300)}},
		{"a span across a day's end, without regular ones", 0, 300, week, night, 0, answer{nil, night, nil}},
		{"a span across a day's end, double ones alone", 0, 0, week, night, 0, answer{nil, nil, night}},
		{"long ones touch short ones of the next day that are not regular", 200, 300, 200, night, 0, answer{of(day-300, day-100), of(day-100, day+300), nil}},
		{"WeekReg ends at a day's end", 300, 300, 300, night, 0, answer{of(day-300, day), of(day, day+300), nil}},
		{"three days without an end", 100, 200, 250, of(day-50, 4*day+50), 0,
			answer{of(day-50, day+100, 2*day, 2*day+100), of(day+100, day+200, 2*day+100, 2*day+200, 3*day, 3*day+200, 4*day, 4*day+50), of(day+200, 2*day, 2*day+200, 3*day, 3*day+200, 4*day)}},
		{"a span across a week's end, the first of both", 100, 200, week, of(week-300, week+300), 0, answer{of(week-300, week-200), of(week-200, week-100), of(week-100, week)}},
		{"a span across a week's end, the second of both", 100, 200, week, of(week-300, week+300), 1, answer{of(week, week+100), of(week+100, week+200), of(week+200, week+300)}},
		{"a span across a week's end, a week behind it", 100, 200, week, of(week-300, week+300), 2, answer{}},
		{"WeekReg of each week, the first one", 100, 200, 100, of(week-300, week+300), 0, answer{of(week-300, week-200), of(week-200, week-100), of(week-100, week)}},
		{"WeekReg of each week, the second one", 100, 200, 100, of(week-300, week+300), 1, answer{of(week, week+100), of(week+100, week+200), of(week+200, week+300)}},
		{"other weeks do not count towards WeekReg", 100, 200, 150, of(0, 500, 5, day, 2*week, 2*week+80, 3*week, 3*week+500), 2, answer{of(2*week, 2*week+80), nil, nil}},
		{"seconds in other weeks alone", 100, 200, 150, of(0, 500, week-1, week, 2*week, 2*week+80), 1, answer{}},
		{"a week up to its end", 100, 200, 150, of(2*week, 2*week+80, 3*week-50, 3*week, 3*week, 3*week+70), 2, answer{of(2*week, 2*week+80, 3*week-50, 3*week), nil, nil}},
		{"a span over three weeks", 10, 20, 65, of(week-5, 2*week+5), 1, answer{
			of(week, week+10, week+day, week+day+10, week+2*day, week+2*day+10, week+3*day, week+3*day+10, week+4*day, week+4*day+10, week+5*day, week+5*day+10, week+6*day, week+6*day+5),
			of(week+10, week+20, week+day+10, week+day+20, week+2*day+10, week+2*day+20, week+3*day+10, week+3*day+20, week+4*day+10, week+4*day+20, week+5*day+10, week+5*day+20, week+6*day+5, week+6*day+20),
			of(week+20, week+day, week+day+20, week+2*day, week+2*day+20, week+3*day, week+3*day+20, week+4*day, week+4*day+20, week+5*day, week+5*day+20, week+6*day, week+6*day+20, 2*week)}},
	}
}

// atEnds are spans at the ends of all time, and behind them, and weeks that there are not.
func atEnds() []known {
	everywhere := of(least, greatest, 0, end)
	return []known{
		{"the first week", 10, 20, 15, of(0, 30, day, day+30), 0, answer{of(0, 10, day, day+5), of(10, 20, day+5, day+20), of(20, 30, day+20, day+30)}},
		{"the last week", 10, 20, 15, of(end-day-30, end-day, end-30, end), 52, answer{of(end-day-30, end-day-20, end-30, end-25), of(end-day-20, end-day-10, end-25, end-10), of(end-day-10, end-day, end-10, end)}},
		{"the first second", 1, 1, 1, of(0, 1), 0, answer{of(0, 1), nil, nil}},
		{"the last second", 1, 1, 1, of(end-1, end), 52, answer{of(end-1, end), nil, nil}},
		{"the last second, double", 0, 0, 1, of(end-1, end), 52, answer{nil, nil, of(end-1, end)}},
		{"the first and the last second, in neither's week", 1, 1, 1, of(0, 1, end-1, end), 30, answer{}},
		{"times below 0 are no seconds", 10, 20, week, of(-50, 30), 0, answer{of(0, 10), of(10, 20), of(20, 30)}},
		{"from the least number on", 10, 20, week, of(least, 30), 0, answer{of(0, 10), of(10, 20), of(20, 30)}},
		{"below 0 alone", 10, 20, week, of(-50, 0, least, -7, least, least+1), 0, answer{}},
		{"below 0 alone, the week of it", 10, 20, week, of(-50, 0, least, -7, -week, -1), -1, answer{}},
		{"times above the end are no seconds", 10, 20, week, of(end-15, end+50), 52, answer{of(end-15, end-5), of(end-5, end), nil}},
		{"to the greatest number", 10, 20, week, of(end-25, greatest), 52, answer{of(end-25, end-15), of(end-15, end-5), of(end-5, end)}},
		{"above the end alone", 10, 20, week, of(end, end+50, end+day, greatest, greatest-1, greatest), 52, answer{}},
		{"above the end alone, the week of it", 10, 20, week, of(end, end+50, end, greatest), 53, answer{}},
		{"a week below 0", 10, 20, week, everywhere, -1, answer{}},
		{"a week behind the last one", 10, 20, week, everywhere, allWeeks, answer{}},
		{"the least week", 10, 20, week, everywhere, least, answer{}},
		{"the greatest week", 10, 20, week, everywhere, greatest, answer{}},
		{"a week that wraps round to the first one", 10, 20, week, everywhere, 1 << 62, answer{}},
		{"a week of all seconds, regular", day, day, week, everywhere, 30, answer{of(30*week, 31*week), nil, nil}},
		{"a week of all seconds, one not regular", day, day, week - 1, everywhere, 0, answer{of(0, week-1), of(week-1, week), nil}},
		{"a week of all seconds, overtime", 0, day, week, everywhere, 52, answer{nil, of(52*week, end), nil}},
		{"a week of all seconds, double", 0, 0, week, everywhere, 0, answer{nil, nil, of(0, week)}},
	}
}

// all are the cases whose answers are written out.
func all() []known {
	return slices.Concat(ofDays(), ofWeeks(), acrossEnds(), atEnds())
}

// P16.1: weeks whose answers are written out here; of a setup that may be its hours alone tell.
func TestKnown(t *testing.T) {
	for _, c := range all() {
		for _, s := range []api.Setup{with(c.reg, c.most, c.ofWeek), full(c.reg, c.most, c.ofWeek)} {
			if !setup.Check(s) {
				t.Fatalf("%s: the setup may not be", c.name)
			}
			if got := asked(s, c.l, c.n); !got.is(c.want) {
				t.Errorf("%s: %s, want %s", c.name, got.text(), c.want.text())
			}
			check(t, c.name, s, c.l, c.n)
		}
	}
}

// P16.1: of a week that does not hang on another one the same is told so many weeks later, in the first week and in the last.
func TestAnyWeek(t *testing.T) {
	for _, c := range all() {
		// What lies within the first three weeks alone may be moved.
		if c.n < 0 || c.n > 2 || slices.ContainsFunc(c.l, func(s api.Span) bool { return s.From < 0 || s.To > 4*week }) {
			continue
		}
		s := with(c.reg, c.most, c.ofWeek)
		for _, weeks := range []int{1, 20, 49, 52 - c.n} {
			if got, want := asked(s, later(c.l, weeks*week), c.n+weeks), c.want.later(weeks*week); !got.is(want) {
				t.Errorf("%s: %d weeks later: %s, want %s", c.name, weeks, got.text(), want.text())
			}
		}
	}
}

// P16.1: weeks that there are not have nothing of spans that reach over all numbers, also where week times Week would wrap round.
func TestNoWeeks(t *testing.T) {
	everywhere := of(least, greatest, -9*week, 9, end-9, end+9*week)
	for _, s := range []api.Setup{with(0, 0, 0), with(5, day, 7), with(day, day, week)} {
		for _, n := range []int{least, least + 1, -1 << 62, -1 << 55, -1 << 40, -allWeeks, -2, -1, allWeeks, allWeeks + 1, 2 * allWeeks, 370, 371, 1 << 40, 1 << 54, 1 << 55, 1 << 57, 1 << 62, greatest - 1, greatest} {
			if got := asked(s, everywhere, n); !got.is(answer{}) {
				t.Errorf("%s: week %d: %s", told(s), n, got.text())
			}
		}
	}
}

// P16.1: a week of which each day has seconds: WeekReg alone tells on which of them the short ones are regular.
func TestEachDay(t *testing.T) {
	const ofDay = 1000
	l := of(3*week-ofDay, 3*week, 4*week, 4*week+ofDay)
	for n := range 7 {
		l = append(l, of(3*week+n*day+500, 3*week+n*day+500+ofDay)...)
	}
	for _, ofWeek := range []int{0, 1, 599, 600, 601, 1200, 3599, 3600, 3601, 4199, 4200, 4201, 7000, week} {
		var want answer
		left := ofWeek
		for n := range 7 {
			from := 3*week + n*day + 500
			reg := min(600, left)
			left -= reg
			if reg > 0 {
				want[0] = append(want[0], of(from, from+reg)...)
			}
			want[1] = append(want[1], of(from+reg, from+900)...)
			want[2] = append(want[2], of(from+900, from+ofDay)...)
		}
		if got := asked(with(600, 900, ofWeek), l, 3); !got.is(want) {
			t.Errorf("WeekReg %d: %s, want %s", ofWeek, got.text(), want.text())
		}
	}
}

// P16.1: a day without seconds takes nothing of WeekReg, wherever it stands.
func TestDaysWithout(t *testing.T) {
	for which := range 1 << 7 {
		var l []api.Span
		for n := range 7 {
			if which>>n&1 > 0 {
				l = append(l, of(week+n*day+10, week+n*day+40, week+n*day+50, week+n*day+60)...)
			}
		}
		for _, ofWeek := range []int{0, 35, 70, 85, 140, 210, 244, 245} {
			check(t, strconv.Itoa(which), with(35, 38, ofWeek), l, 1)
		}
	}
}

// P16.1: all numbers about what a week has, as DayReg, DayOver and WeekReg.
func TestEdges(t *testing.T) {
	// On the first day 30 seconds, on the second 50, across their end, and on the last one 7.
	l := of(40, 50, day-20, day+20, day+15, day+35, day+40, day+55, 6*day, 6*day+7, week, week+9)
	hours := []int{0, 1, 6, 7, 8, 9, 10, 11, 29, 30, 31, 34, 35, 36, 49, 50, 51, day - 1, day}
	weeks := []int{0, 1, 6, 7, 10, 29, 30, 31, 37, 64, 65, 66, 79, 80, 81, 86, 87, 88, week - 1, week}
	for _, reg := range hours {
		for _, most := range hours {
			if most < reg {
				continue
			}
			for _, ofWeek := range weeks {
				s := with(reg, most, ofWeek)
				if got, want := asked(s, l, 0), said(s, l, 0); !got.is(want) {
					t.Fatalf("%s: %s, want %s", told(s), got.text(), want.text())
				}
			}
		}
	}
}

// P16.1: one span, and two, with all edges as their bounds.
func TestBounds(t *testing.T) {
	bounds := []int{least, -1, 0, 1, day - 1, day, day + 1, week - 1, week, week + 1, end - week, end - 1, end, end + 1, greatest}
	for i, from := range bounds {
		for j, to := range bounds {
			s := with(10*(i%3), 25+5*(j%4), 30*((i+j)%4))
			for _, n := range []int{-1, 0, 1, 52, 53} {
				check(t, "one", s, of(from, to), n)
				check(t, "two", s, of(from, to, 20, 40, week-day, week-day+30, end-40, end-5), n)
			}
		}
	}
}

// drawn is a setup of hours by chance.
func drawn(r *rand.Rand) api.Setup {
	bound := func() int {
		switch r.Intn(6) {
		case 0:
			return []int{0, 1, day - 1, day}[r.Intn(4)]
		case 1:
			return r.Intn(day + 1)
		}
		return r.Intn(150)
	}
	reg, most := bound(), bound()
	return with(min(reg, most), max(reg, most), []int{r.Intn(300), r.Intn(week + 1), week, bound()}[r.Intn(4)])
}

// listed is a week, and spans by chance: that lie close, or about the ends of days and weeks, or reach far, or are none.
func listed(r *rand.Rand) (int, []api.Span) {
	n := []int{0, 0, 1, 20, 51, 52, 52, r.Intn(allWeeks)}[r.Intn(8)]
	days := []int{n * week, n*week + day, n*week + 6*day, n*week + r.Intn(7)*day}
	bound := func() int {
		base := days[r.Intn(4)]
		switch r.Intn(9) {
		case 0:
			return base + r.Intn(2*day) - day/2
		case 1:
			return base + r.Intn(3)*day
		case 2:
			return n*week + r.Intn(3)*week - week + r.Intn(120) - 60
		}
		return base + r.Intn(200) - 30
	}
	var l []api.Span
	for range r.Intn(12) {
		s := api.Span{From: bound()}
		switch r.Intn(4) {
		case 0:
			s.To = bound()
		default:
			s.To = s.From + r.Intn(90)
		}
		if r.Intn(6) > 0 && s.From > s.To {
			s.From, s.To = s.To, s.From
		}
		l = append(l, s)
	}
	return n, l
}

// P16.1: lists of several spans, in the week that they are about, and in those next to it.
func TestSome(t *testing.T) {
	r := rand.New(rand.NewSource(161))
	for i := range 3000 {
		n, l := listed(r)
		check(t, strconv.Itoa(i), drawn(r), l, n+[]int{0, 0, 0, 1, -1}[r.Intn(5)])
	}
}

// P16.1, R1: numbers of all kinds, in setups, in hand-made spans, and as weeks.
func TestHandMade(t *testing.T) {
	r := rand.New(rand.NewSource(162))
	wild := func() int {
		return []int{0, 1, 3, -1, day, day - 1, day + 1, week, week + 1, end, end - 1, end + 1, least, greatest, 1 << 62, -1 << 62, r.Intn(end), r.Intn(day), r.Int(), -r.Int()}[r.Intn(20)]
	}
	may := 0
	for range 6000 {
		s := with(wild(), wild(), wild())
		if r.Intn(4) == 0 {
			s = drawn(r)
		}
		var l []api.Span
		for range r.Intn(5) {
			l = append(l, api.Span{From: wild(), To: wild()})
		}
		n := []int{wild(), r.Intn(allWeeks), 0, 52}[r.Intn(4)]
		if !setup.Check(s) {
			none(t, "hand-made", s, l, n)
			continue
		}
		may++
		check(t, "hand-made", s, l, n)
	}
	if may < 1000 {
		t.Errorf("%d setups that may be", may)
	}
}

// none holds a setup that may not be against there being nothing.
func none(t *testing.T, name string, s api.Setup, l []api.Span, n int) {
	t.Helper()
	if setup.Check(s) {
		t.Fatalf("%s: the setup may be", name)
	}
	if got := asked(s, l, n); !got.is(answer{}) {
		t.Errorf("%s: %s: Of(%v, %d) = %s", name, told(s), l, n, got.text())
	}
}

// noneAtAll holds a setup that may not be against there being nothing of spans of all kinds.
func noneAtAll(t *testing.T, name string, s api.Setup) {
	t.Helper()
	for _, l := range [][]api.Span{nil, shift(), threeDays(), of(0, end), of(5, 2*day, week-9, week+9, end-5, end)} {
		for _, n := range []int{-1, 0, 1, allWeeks - 1, allWeeks} {
			none(t, name, s, l, n)
		}
	}
}

// P16.1: a setup that may not be by its DayReg, its DayOver or its WeekReg alone.
func TestHoursThatMayNotBe(t *testing.T) {
	for _, fair := range []int{0, 1, 600, day - 1, day} {
		for _, wrong := range []int{least, -1 << 62, -end, -day, -600, -1} {
			noneAtAll(t, "DayReg below 0", with(wrong, fair, fair))
			noneAtAll(t, "DayOver below 0", with(0, wrong, fair))
			noneAtAll(t, "WeekReg below 0", with(fair, fair, wrong))
			noneAtAll(t, "all three below 0", with(wrong, wrong, wrong))
		}
		for _, wrong := range []int{day + 1, 2 * day, end, 1 << 62, greatest} {
			noneAtAll(t, "DayReg above a day", with(wrong, fair, fair))
			noneAtAll(t, "DayOver above a day", with(fair, wrong, fair))
			noneAtAll(t, "both above a day", with(wrong, wrong, fair))
		}
		for _, wrong := range []int{week + 1, 2 * week, end, 1 << 62, greatest} {
			noneAtAll(t, "WeekReg above a week", with(fair, fair, wrong))
		}
		if fair > 0 {
			noneAtAll(t, "DayReg one above DayOver", with(fair, fair-1, week))
			noneAtAll(t, "DayReg above a DayOver of 0", with(fair, 0, week))
		}
	}
}

// P16.1: a setup that may not be by anything else.
func TestSetupsThatMayNotBe(t *testing.T) {
	noneAtAll(t, "a setup without anything", api.Setup{})
	noneAtAll(t, "hours alone", api.Setup{DayReg: 28800, DayOver: 43200, WeekReg: 144000})
	for name, spoil := range map[string]func(*api.Setup){
		"Places":    func(s *api.Setup) { s.Places = 0 },
		"Ways":      func(s *api.Setup) { s.Ways = []api.Way{{A: 0, B: 0, Meters: 1}} },
		"Pace":      func(s *api.Setup) { s.Pace = api.Ratio{Num: 2, Den: 2} },
		"Elements":  func(s *api.Setup) { s.Elements = make([]api.Element, 1) },
		"Classes":   func(s *api.Setup) { s.Classes = make([]api.Ratio, 1) },
		"Gears":     func(s *api.Setup) { s.Gears = make([]api.Ratio, 1) },
		"Allow":     func(s *api.Setup) { s.Allow = 101 },
		"Unit":      func(s *api.Setup) { s.Unit = 0 },
		"Cap":       func(s *api.Setup) { s.Cap = 59 },
		"PaidBreak": func(s *api.Setup) { s.PaidBreak = -1 },
		"AutoAfter": func(s *api.Setup) { s.AutoAfter = day + 1 },
		"AutoBreak": func(s *api.Setup) { s.AutoBreak = -1 },
		"NightFrom": func(s *api.Setup) { s.NightFrom = -1 },
		"NightTo":   func(s *api.Setup) { s.NightTo = day + 1 },
		"Rates":     func(s *api.Setup) { s.Rates = nil },
		"Diff":      func(s *api.Setup) { s.Diff = -1 },
		"Least":     func(s *api.Setup) { s.Least = 100001 },
		"Fault":     func(s *api.Setup) { s.Fault = -1 },
		"Tiers":     func(s *api.Setup) { s.Tiers = []api.Tier{{Least: 1}, {Least: 1}} },
	} {
		for _, s := range []api.Setup{with(0, 0, 0), with(28800, 43200, 144000), with(day, day, week)} {
			spoil(&s)
			noneAtAll(t, name, s)
		}
	}
}

// secondsOf is what the document says of the week's seconds.
func secondsOf(l []api.Span, n int) []api.Span {
	if !isWeek(n) {
		return nil
	}
	return span.And(l, of(n*week, n*week+week))
}

// P16.2: what is regular, overtime and double shares no second, and is the week's; each is plain spans.
func TestMakeTheWeek(t *testing.T) {
	r := rand.New(rand.NewSource(163))
	for range 3000 {
		s := drawn(r)
		n, l := listed(r)
		got, want := asked(s, l, n), secondsOf(l, n)
		if made := span.Norm(slices.Concat(got[:]...)...); !slices.Equal(made, want) {
			t.Fatalf("%s: %v: week %d: %s make %v, want %v", told(s), l, n, got.text(), made, want)
		}
		if len(span.And(got[0], got[1]))+len(span.And(got[0], got[2]))+len(span.And(got[1], got[2])) > 0 {
			t.Fatalf("%s: %v: week %d: %s share seconds", told(s), l, n, got.text())
		}
		if plain := got.within(of(0, end)); !got.is(plain) {
			t.Fatalf("%s: %v: week %d: %s, plain %s", told(s), l, n, got.text(), plain.text())
		}
	}
}

// P16.2: of a day no more than DayReg are regular, and no more than DayOver are not double; as many as there are are taken, and of a week no more than WeekReg.
func TestHowMuch(t *testing.T) {
	r := rand.New(rand.NewSource(164))
	for range 3000 {
		s := drawn(r)
		n, l := listed(r)
		got, short := asked(s, l, n), 0
		for from := n * week; from < n*week+week; from += day {
			hours := of(from, from+day)
			seconds := span.Size(span.And(l, hours))
			sizes := got.within(hours).sizes()
			reg, over := sizes[0], sizes[1]
			if reg > s.DayReg || reg+over > s.DayOver {
				t.Fatalf("%s: %v: at %d: %d regular, %d overtime", told(s), l, from, reg, over)
			}
			if reg+over != min(seconds, s.DayOver) {
				t.Fatalf("%s: %v: at %d: %d regular, %d overtime of %d", told(s), l, from, reg, over, seconds)
			}
			short += min(seconds, s.DayReg)
		}
		if reg := span.Size(got[0]); reg != min(short, s.WeekReg) {
			t.Fatalf("%s: %v: week %d: %d regular of %d short ones", told(s), l, n, reg, short)
		}
	}
}

// dear is how dear a second is: 1 if it is regular, 2 if it is overtime, 3 if it is double, and 0 if it is none of these.
func (a answer) dear(t int) int {
	for i, l := range a {
		if span.Has(l, t) {
			return i + 1
		}
	}
	return 0
}

// bounds are the first and the last seconds of an answer's spans.
func (a answer) bounds() []int {
	var l []int
	for _, s := range slices.Concat(a[:]...) {
		l = append(l, s.From, s.To-1)
	}
	return l
}

// P16.2: a second more makes none of the ones behind it cheaper, and changes none of those ahead of it.
func TestOneMore(t *testing.T) {
	r := rand.New(rand.NewSource(165))
	changed := 0
	for range 3000 {
		s := drawn(r)
		n, l := listed(r)
		seconds := secondsOf(l, n)
		more := n*week + r.Intn(week)
		if near := len(seconds); near > 0 && r.Intn(4) > 0 {
			more = min(end-1, max(0, seconds[r.Intn(near)].From-1-r.Intn(20)))
		}
		if span.Has(seconds, more) {
			continue
		}
		was := asked(s, l, n)
		got := asked(s, append(slices.Clone(l), of(more, more+1)...), n)
		for _, at := range slices.Concat(was.bounds(), got.bounds()) {
			before, after := was.dear(at), got.dear(at)
			switch {
			case at < more && before != after, at > more && before > after:
				t.Fatalf("%s: %v, and %d: %d was of %d, and is of %d", told(s), l, more, at, before, after)
			case at > more && before != after:
				changed++
			}
		}
	}
	if changed < 300 {
		t.Errorf("%d seconds are dearer", changed)
	}
}

// P16.1: a week does not hang on others: what they have beside it, or have no more, changes nothing of it.
func TestWeeksApart(t *testing.T) {
	r := rand.New(rand.NewSource(166))
	for range 2000 {
		s := drawn(r)
		n, l := listed(r)
		want := asked(s, l, n)
		more := append(slices.Clone(l), of(n*week-r.Intn(2*week), n*week, n*week+week, n*week+week+r.Intn(2*week), -5, -1, end, greatest)...)
		for _, other := range [][]api.Span{secondsOf(l, n), more} {
			if got := asked(s, other, n); !got.is(want) {
				t.Fatalf("%s: week %d: of %v %s, of %v %s", told(s), n, l, want.text(), other, got.text())
			}
		}
	}
}

// P16.1: a day's double ones do not hang on other days, and days behind it change nothing of it.
func TestDaysBehind(t *testing.T) {
	r := rand.New(rand.NewSource(167))
	for range 2000 {
		s := drawn(r)
		n, l := listed(r)
		from := n*week + r.Intn(7)*day
		upTo, hours := of(n*week, from+day), of(from, from+day)
		whole, ahead, alone := asked(s, l, n), asked(s, span.And(l, upTo), n), asked(s, span.And(l, hours), n)
		if cut := whole.within(upTo); !cut.is(ahead) {
			t.Fatalf("%s: %v: up to %d: %s, without those behind %s", told(s), l, from+day, cut.text(), ahead.text())
		}
		if double := span.And(whole[2], hours); !slices.Equal(double, alone[2]) {
			t.Fatalf("%s: %v: at %d: %v, alone %v", told(s), l, from, double, alone[2])
		}
	}
}

// P16.1, R4: a set has the same answer, however it is told: in another order, in pieces, with nothing beside it.
func TestSameSet(t *testing.T) {
	r := rand.New(rand.NewSource(168))
	for range 2000 {
		s := drawn(r)
		n, l := listed(r)
		other := append(of(9, 9, 7, 3, -5, 0, end, end+9), l...)
		for _, p := range span.Norm(l...) {
			at := p.From + r.Intn(p.To-p.From)
			other = append(other, of(at, p.To, p.From, at)...)
		}
		r.Shuffle(len(other), func(i, j int) { other[i], other[j] = other[j], other[i] })
		if a, b := asked(s, l, n), asked(s, slices.Clip(other), n); !a.is(b) {
			t.Fatalf("%s: week %d: %v, %v: %s, %s", told(s), n, l, other, a.text(), b.text())
		}
	}
}

// roomy is the spans with spare room behind them, in which there stands what would change the answers; and all of that memory.
func roomy(l []api.Span) (list, all []api.Span) {
	all = append(slices.Clone(l), of(0, end, 3*day, 3*day+9, -7, 7, 9, 2, least, greatest)...)
	return all[:len(l)], all
}

// spoil changes a list, and all room behind it, as whoever has it may.
func spoil(l []api.Span) {
	for i := range l[:cap(l)] {
		l[:cap(l)][i] = api.Span{From: -99, To: 99}
	}
}

// apart holds the lists of an answer against sharing memory with one another.
func apart(t *testing.T, name string, ask func() answer) {
	t.Helper()
	for i := range 3 {
		got, want := ask(), ask().copied()
		spoil(got[i])
		// The one that was spoilt is told by nothing any more.
		got[i], want[i] = nil, nil
		if !got.is(want) {
			t.Errorf("%s: two lists of an answer share memory: %s, want %s", name, got.text(), want.text())
		}
	}
}

// own holds Of against its answers being in memory of their own, apart from one another's, and from all that was handed in.
func own(t *testing.T, name string, s api.Setup, l, all []api.Span, n int) {
	t.Helper()
	was := slices.Clone(all)
	one, two := asked(s, l, n), asked(s, l, n)
	want := two.copied()
	for _, l := range one {
		spoil(l)
	}
	if !two.is(want) {
		t.Errorf("%s: two answers share memory: %s", name, two.text())
	}
	if !slices.Equal(all, was) {
		t.Errorf("%s: what was handed in was changed: %v", name, all)
	}
	// And whoever handed a list in may change it.
	for i := range all {
		all[i] = api.Span{From: 3, To: 4}
	}
	if !two.is(want) {
		t.Errorf("%s: what was handed in is kept: %s", name, two.text())
	}
	copy(all, was)
	if got := asked(s, l, n); !got.is(want) {
		t.Errorf("%s: asked again: %s, want %s", name, got.text(), want.text())
	}
}

// R3: what is handed in is neither changed nor kept, its spare room included; answers are in memory of their own.
func TestMemory(t *testing.T) {
	for _, c := range all() {
		l, memory := roomy(c.l)
		s := with(c.reg, c.most, c.ofWeek)
		check(t, c.name, s, l, c.n)
		own(t, c.name, s, l, memory, c.n)
		apart(t, c.name, func() answer { return asked(s, l, c.n) })
	}
	l, memory := roomy(threeDays())
	own(t, "a setup that may not be", with(2, 1, week), l, memory, 0)
}

// R3: a setup that is handed in stays as it was, with the spare room of its lists, and is not kept.
func TestSetupStays(t *testing.T) {
	s := full(50, 70, 150)
	rates := []int{1500, 2000, -7, 9}
	tiers := []api.Tier{{Least: 100, Bonus: 150}, {Least: -1, Bonus: -1}}
	s.Rates, s.Tiers = rates[:2], tiers[:1]
	before, e := setup.Write(s)
	Of(s, threeDays(), 0)
	after, f := setup.Write(s)
	if e != api.OK || f != api.OK || !slices.Equal(before, after) {
		t.Errorf("%v", s)
	}
	if !slices.Equal(rates, []int{1500, 2000, -7, 9}) || !slices.Equal(tiers, []api.Tier{{Least: 100, Bonus: 150}, {Least: -1, Bonus: -1}}) {
		t.Errorf("%v, %v", rates, tiers)
	}
	s.DayReg, s.DayOver, s.WeekReg = 0, 100, 0
	if got := asked(s, threeDays(), 0); !got.is(answer{nil, threeDays(), nil}) {
		t.Errorf("%s", got.text())
	}
}

// P16.1: as many spans as a long list may have, in one week and in all, in a time that does not rise with their square.
func TestMany(t *testing.T) {
	var dense, far []api.Span
	for i := week/2 - 1; i >= 0; i-- {
		dense = append(dense, of(2*i, 2*i+1)...)
		far = append(far, of(100*i, 100*i+50)...)
	}
	s := with(30000, 40000, 200000)
	// Each day has 43200 seconds.
	want := []int{200000, 7*40000 - 200000, 7 * 3200}
	if got := asked(s, dense, 0).sizes(); !slices.Equal(got, want) {
		t.Errorf("dense: %v, want %v", got, want)
	}
	for n := range allWeeks {
		// The list ends with week 49.
		if n == 50 {
			want = []int{0, 0, 0}
		}
		if got := asked(s, far, n).sizes(); !slices.Equal(got, want) {
			t.Errorf("far: week %d: %v, want %v", n, got, want)
		}
	}
}
