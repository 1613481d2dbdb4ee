package breaks

import (
	"math"
	"math/rand"
	"slices"
	"strconv"
	"testing"

	"lumper/api"
	"lumper/setup"
	"lumper/span"
)

const (
	// day, end and allDays are as the document says them.
	day     = 86400
	end     = 53 * 604800
	allDays = 371

	least    = math.MinInt
	greatest = math.MaxInt
)

// with is a setup, that may be if its breaks may, of breaks.
func with(paid, after, auto int) api.Setup {
	return api.Setup{Places: 1, Pace: api.Ratio{Num: 1, Den: 1}, Unit: 1, Cap: 60, PaidBreak: paid, AutoAfter: after, AutoBreak: auto, Rates: []int{1}}
}

// full is a setup, that may be, with some of everything.
func full(paid, after, auto int) api.Setup {
	third := api.Ratio{Num: 1, Den: 3}
	return api.Setup{Places: 3, Ways: []api.Way{{A: 0, B: 2, Meters: 300}}, Pace: third, Elements: []api.Element{{Fixed: third, Unit: third}},
		Classes: []api.Ratio{third, third}, Gears: []api.Ratio{third}, Allow: 7, Unit: 900, Cap: 36000, PaidBreak: paid, AutoAfter: after, AutoBreak: auto,
		DayReg: 28800, DayOver: 43200, WeekReg: 144000, NightFrom: 79200, NightTo: 21600, Rates: []int{1500, 2000}, Diff: 75, Least: 725, Fault: 60,
		Tiers: []api.Tier{{Least: 100, Bonus: 150}}}
}

// of is spans, from and to by turns.
func of(l ...int) []api.Span {
	var out []api.Span
	for i := 0; i+1 < len(l); i += 2 {
		out = append(out, api.Span{From: l[i], To: l[i+1]})
	}
	return out
}

// work, and the others, are parts.
func work(from, to int) api.Seg { return api.Seg{From: from, To: to, Kind: api.SDirect, ID: 1} }
func other(from, to int) api.Seg {
	return api.Seg{From: from, To: to, Kind: api.SIndirect, ID: 2, Code: 7}
}
func gap(from, to int) api.Seg  { return api.Seg{From: from, To: to, ID: 3} }
func rest(from, to int) api.Seg { return api.Seg{From: from, To: to, Kind: api.SBreak, ID: 4} }

// list is a list of parts.
func list(l ...api.Seg) []api.Seg { return l }

// marks are what is so of each second of a day.
type marks [day]bool

// mark tells that the seconds of a part, those of the day alone, are so.
func (m *marks) mark(p api.Seg, n int) {
	for t := max(p.From, n*day); t < min(p.To, n*day+day); t++ {
		m[t-n*day] = true
	}
}

// spans are the seconds that are so, of that day.
func (m *marks) spans(n int) []api.Span {
	var l []api.Span
	for t, so := range m {
		switch at, last := n*day+t, len(l)-1; {
		case !so:
		case last >= 0 && l[last].To == at:
			l[last].To++
		default:
			l = append(l, api.Span{From: at, To: at + 1})
		}
	}
	return l
}

// isDay is what the document says of days.
func isDay(n int) bool { return n >= 0 && n < allDays }

// has is whether a part has seconds of the day.
func has(segs []api.Seg, n int) bool {
	return slices.ContainsFunc(segs, func(p api.Seg) bool { return max(p.From, n*day) < min(p.To, n*day+day) })
}

// said is what the document says of OfDay, of a setup that may be: the day's seconds are counted one by one.
func said(s api.Setup, segs []api.Seg, n int) (paid, unpaid []api.Span) {
	if !isDay(n) || !has(segs, n) {
		return nil, nil
	}
	var clock, rests, not marks
	for _, p := range segs {
		clock.mark(p, n)
		if p.Kind == 3 {
			rests.mark(p, n)
		}
	}
	seconds, resting := 0, 0
	for t := range day {
		if clock[t] {
			seconds++
		}
		if rests[t] {
			resting++
			not[t] = resting > s.PaidBreak
		}
	}
	missing := 0
	if seconds >= s.AutoAfter && resting < s.AutoBreak {
		missing = s.AutoBreak - resting
	}
	for t := day - 1; t >= 0 && missing > 0; t-- {
		if clock[t] && !rests[t] {
			not[t] = true
			missing--
		}
	}
	for t := range day {
		clock[t] = clock[t] && !not[t]
	}
	return clock.spans(n), not.spans(n)
}

// joined is spans that rise, those that touch taken for one.
func joined(l []api.Span) []api.Span {
	var out []api.Span
	for _, s := range l {
		if last := len(out) - 1; last >= 0 && out[last].To == s.From {
			out[last].To = s.To
			continue
		}
		out = append(out, s)
	}
	return out
}

// saidOfAll is what the document says of Paid, of a setup that may be: each day by itself.
func saidOfAll(s api.Setup, segs []api.Seg) (paid, unpaid []api.Span) {
	for n := range allDays {
		yes, no := said(s, segs, n)
		paid, unpaid = append(paid, yes...), append(unpaid, no...)
	}
	return joined(paid), joined(unpaid)
}

// told are the numbers of a setup's breaks.
func told(s api.Setup) string {
	return strconv.Itoa(s.PaidBreak) + ", " + strconv.Itoa(s.AutoAfter) + ", " + strconv.Itoa(s.AutoBreak)
}

// daysAbout are the days of the parts' bounds, those next to them, and some that there are not.
func daysAbout(segs []api.Seg) []int {
	l := []int{least, -1, 0, allDays - 1, allDays, greatest}
	for _, p := range segs {
		for _, t := range []int{p.From, p.To} {
			l = append(l, t/day-1, t/day, t/day+1)
		}
	}
	slices.Sort(l)
	return slices.Compact(l)
}

// check holds both calls against the document's words, OfDay on all days about the parts; the list stays as it was, its spare room included.
func check(t *testing.T, name string, s api.Setup, segs []api.Seg) {
	t.Helper()
	was := slices.Clone(segs[:cap(segs)])
	paid, unpaid := Paid(s, segs)
	wantPaid, wantUnpaid := saidOfAll(s, segs)
	if !slices.Equal(paid, wantPaid) || !slices.Equal(unpaid, wantUnpaid) {
		t.Fatalf("%s: %s: Paid(%v) = %v, %v, want %v, %v", name, told(s), segs, paid, unpaid, wantPaid, wantUnpaid)
	}
	for _, n := range daysAbout(segs) {
		paid, unpaid := OfDay(s, segs, n)
		wantPaid, wantUnpaid := said(s, segs, n)
		if !slices.Equal(paid, wantPaid) || !slices.Equal(unpaid, wantUnpaid) {
			t.Fatalf("%s: %s: OfDay(%v, %d) = %v, %v, want %v, %v", name, told(s), segs, n, paid, unpaid, wantPaid, wantUnpaid)
		}
	}
	if !slices.Equal(segs[:cap(segs)], was) {
		t.Fatalf("%s: %v was changed: %v", name, was, segs[:cap(segs)])
	}
}

// known is breaks, parts, and which of their seconds are paid, and which ones are not.
type known struct {
	name              string
	paid, after, auto int
	segs              []api.Seg
	yes, no           []api.Span
}

// shift is a clock from 1000 to 9000, with a break from 4000 to 5000.
func shift() []api.Seg {
	return list(gap(1000, 2000), work(2000, 4000), rest(4000, 5000), other(5000, 9000))
}

// byBreaks are days whose breaks alone tell what is paid.
func byBreaks() []known {
	return []known{
		{"fewer than PaidBreak", 1001, 0, 0, shift(), of(1000, 9000), nil},
		{"as many as PaidBreak", 1000, 0, 0, shift(), of(1000, 9000), nil},
		{"one more than PaidBreak", 999, 0, 0, shift(), of(1000, 4999, 5000, 9000), of(4999, 5000)},
		{"many more than PaidBreak", 300, 0, 0, shift(), of(1000, 4300, 5000, 9000), of(4300, 5000)},
		{"PaidBreak 1", 1, 0, 0, shift(), of(1000, 4001, 5000, 9000), of(4001, 5000)},
		{"PaidBreak 0", 0, 0, 0, shift(), of(1000, 4000, 5000, 9000), of(4000, 5000)},
		{"the greatest PaidBreak", day, 0, 0, shift(), of(1000, 9000), nil},
		{"no break", 0, 0, 0, list(work(5, 90)), of(5, 90), nil},
		{"no break, the greatest PaidBreak", day, 0, 0, list(work(5, 90)), of(5, 90), nil},
		{"a break at the clock's beginning", 30, 0, 0, list(rest(100, 200), work(200, 900)), of(100, 130, 200, 900), of(130, 200)},
		{"a break at the clock's end", 30, 0, 0, list(work(200, 900), rest(900, 1000)), of(200, 930), of(930, 1000)},
		{"a break at both", 130, 0, 0, list(rest(100, 200), work(200, 900), rest(900, 1000)), of(100, 930), of(930, 1000)},
		{"a break at both, without pay", 0, 0, 0, list(rest(100, 200), work(200, 900), rest(900, 1000)), of(200, 900), of(100, 200, 900, 1000)},
		{"PaidBreak ends within the second of three", 150, 0, 0, list(work(0, 50), rest(50, 150), work(150, 300), rest(300, 400), work(400, 500), rest(500, 600), work(600, 700)),
			of(0, 350, 400, 500, 600, 700), of(350, 400, 500, 600)},
		{"PaidBreak ends with the second of three", 200, 0, 0, list(work(0, 50), rest(50, 150), work(150, 300), rest(300, 400), work(400, 500), rest(500, 600), work(600, 700)),
			of(0, 500, 600, 700), of(500, 600)},
		{"PaidBreak ends with the last of three", 300, 0, 0, list(work(0, 50), rest(50, 150), work(150, 300), rest(300, 400), work(400, 500), rest(500, 600), work(600, 700)), of(0, 700), nil},
		{"breaks alone", 30, 0, 0, list(rest(100, 200), rest(300, 400)), of(100, 130), of(130, 200, 300, 400)},
		{"breaks alone, without pay", 0, 0, 0, list(rest(100, 200)), nil, of(100, 200)},
		{"breaks alone, all paid", 100, 0, 0, list(rest(100, 200)), of(100, 200), nil},
		{"one second of a break", 0, 0, 0, list(work(0, 50), rest(50, 51), work(51, 60)), of(0, 50, 51, 60), of(50, 51)},
		{"several sessions", 0, 0, 0, list(work(0, 50), rest(50, 60), work(60, 70), gap(100, 110), rest(110, 120), other(120, 140)), of(0, 50, 60, 70, 100, 110, 120, 140), of(50, 60, 110, 120)},
		{"breaks that touch", 150, 0, 0, list(rest(100, 200), rest(200, 300), work(300, 400)), of(100, 250, 300, 400), of(250, 300)},
		{"a break within other work", 0, 0, 0, list(work(0, 1000), rest(400, 500)), of(0, 400, 500, 1000), of(400, 500)},
		{"work within a break", 0, 0, 0, list(rest(0, 1000), work(400, 500)), nil, of(0, 1000)},
		{"a break that goes on into work", 20, 0, 0, list(work(0, 450), rest(400, 500), work(480, 600)), of(0, 420, 500, 600), of(420, 500)},
		{"breaks that overlap", 120, 0, 0, list(rest(100, 200), rest(150, 300), work(250, 400)), of(100, 220, 300, 400), of(220, 300)},
		{"the same break twice", 60, 0, 0, list(rest(100, 200), rest(100, 200), gap(0, 300)), of(0, 160, 200, 300), of(160, 200)},
		{"the same seconds, as each kind", 10, 0, 0, list(gap(50, 90), work(50, 90), other(50, 90), rest(50, 90)), of(50, 60), of(60, 90)},
		{"unsorted", 130, 0, 0, list(work(600, 700), rest(300, 400), gap(0, 50), rest(50, 150), work(400, 600), work(150, 300)), of(0, 330, 400, 700), of(330, 400)},
		{"empty, and the wrong way round", 5, 0, 0, list(rest(70, 70), rest(90, 20), work(50, 50), work(80, 10), rest(greatest, least), work(100, 110)), of(100, 110), nil},
		{"no parts with seconds", 0, 0, 500, list(rest(70, 70), rest(90, 20), work(50, 50), work(80, 10), rest(greatest, least)), nil, nil},
		{"no parts", 0, 0, 0, nil, nil, nil},
		{"no parts, a break to be taken", 0, 0, day, nil, nil, nil},
		{"an empty list", 0, 0, 500, []api.Seg{}, nil, nil},
		{"kinds that there are not", 0, 0, 0, list(api.Seg{From: 10, To: 20, Kind: 4}, api.Seg{From: 20, To: 30, Kind: -3}, api.Seg{From: 30, To: 40, Kind: greatest}, rest(40, 50)), of(10, 40), of(40, 50)},
	}
}

// byAuto are days of which a break is taken that was not told.
func byAuto() []known {
	eight := list(work(28800, 57600))
	return []known{
		{"the chapter's example", 600, 21600, 1800, list(work(0, 10000), rest(10000, 11000), work(11000, 30000)), of(0, 10600, 11000, 29200), of(10600, 11000, 29200, 30000)},
		{"eight hours without a break", 0, 21600, 1800, eight, of(28800, 55800), of(55800, 57600)},
		{"a clock of one less than AutoAfter", 0, 28801, 1800, eight, of(28800, 57600), nil},
		{"a clock of as many as AutoAfter", 0, 28800, 1800, eight, of(28800, 55800), of(55800, 57600)},
		{"a clock of one more than AutoAfter", 0, 28799, 1800, eight, of(28800, 55800), of(55800, 57600)},
		{"one less than AutoAfter, breaks of one less than AutoBreak", day, 8001, 1001, shift(), of(1000, 9000), nil},
		{"as many as AutoAfter, breaks of one less than AutoBreak", day, 8000, 1001, shift(), of(1000, 8999), of(8999, 9000)},
		{"one more than AutoAfter, breaks of one less than AutoBreak", day, 7999, 1001, shift(), of(1000, 8999), of(8999, 9000)},
		{"as many as AutoAfter, breaks of as many as AutoBreak", day, 8000, 1000, shift(), of(1000, 9000), nil},
		{"as many as AutoAfter, breaks of more than AutoBreak", day, 8000, 999, shift(), of(1000, 9000), nil},
		{"one less than AutoAfter, breaks of as many as AutoBreak", day, 8001, 1000, shift(), of(1000, 9000), nil},
		{"breaks without pay, of as many as AutoBreak", 0, 8000, 1000, shift(), of(1000, 4000, 5000, 9000), of(4000, 5000)},
		{"breaks without pay, of one less than AutoBreak", 0, 8000, 1001, shift(), of(1000, 4000, 5000, 8999), of(4000, 5000, 8999, 9000)},
		{"breaks without pay, a clock of one less than AutoAfter", 0, 8001, 1001, shift(), of(1000, 4000, 5000, 9000), of(4000, 5000)},
		{"breaks count towards AutoAfter, paid or not", 0, 7001, 1001, shift(), of(1000, 4000, 5000, 8999), of(4000, 5000, 8999, 9000)},
		{"paid breaks count towards AutoBreak", 400, 0, 1100, shift(), of(1000, 4400, 5000, 8900), of(4400, 5000, 8900, 9000)},
		{"AutoBreak 0", day, 0, 0, shift(), of(1000, 9000), nil},
		{"AutoBreak 0, no break", 0, 0, 0, eight, of(28800, 57600), nil},
		{"AutoAfter 0", 0, 0, 100, list(work(5, 305)), of(5, 205), of(205, 305)},
		{"AutoAfter 0, one second", 0, 0, 1, list(work(5, 6)), nil, of(5, 6)},
		{"AutoAfter 1, one second", 0, 1, 1, list(work(5, 6)), nil, of(5, 6)},
		{"AutoAfter 2, one second", 0, 2, 1, list(work(5, 6)), of(5, 6), nil},
		{"as many seconds as AutoBreak asks for", 0, 0, 300, list(work(5, 305)), nil, of(5, 305)},
		{"one less than AutoBreak asks for", 0, 0, 301, list(work(5, 305)), nil, of(5, 305)},
		{"one more than AutoBreak asks for", 0, 0, 299, list(work(5, 305)), of(5, 6), of(6, 305)},
		{"less work than AutoBreak asks for, a paid break", 50, 0, 5000, list(work(0, 100), rest(100, 200), work(200, 300)), of(100, 150), of(0, 100, 150, 300)},
		{"as much work as AutoBreak asks for, a paid break", day, 0, 300, list(work(0, 100), rest(100, 200), work(200, 300)), of(100, 200), of(0, 100, 200, 300)},
		{"the greatest AutoBreak", 0, 0, day, shift(), nil, of(1000, 9000)},
		{"the greatest AutoBreak, the greatest PaidBreak", day, 0, day, shift(), of(4000, 5000), of(1000, 4000, 5000, 9000)},
		{"breaks alone, fewer than AutoBreak", 30, 0, 1000, list(rest(100, 200), rest(300, 400)), of(100, 130), of(130, 200, 300, 400)},
		{"breaks alone, fewer than AutoBreak, all paid", 200, 0, 1000, list(rest(100, 200), rest(300, 400)), of(100, 200, 300, 400), nil},
		{"a paid break at the clock's end", day, 0, 250, list(work(0, 900), rest(900, 1000)), of(0, 750, 900, 1000), of(750, 900)},
		{"a break at the clock's end, paid in part", 40, 0, 250, list(work(0, 900), rest(900, 1000)), of(0, 750, 900, 940), of(750, 900, 940, 1000)},
		{"a break at the clock's beginning", 40, 0, 250, list(rest(0, 100), work(100, 1000)), of(0, 40, 100, 850), of(40, 100, 850, 1000)},
		{"the last seconds lie about a break", day, 0, 300, list(work(0, 500), rest(500, 600), work(600, 700)), of(0, 400, 500, 600), of(400, 500, 600, 700)},
		{"the last seconds touch an unpaid break", 0, 0, 200, list(work(0, 500), rest(500, 600), work(600, 700)), of(0, 500), of(500, 700)},
		{"the last seconds are of two sessions", 0, 0, 150, list(work(0, 500), work(600, 700)), of(0, 450), of(450, 500, 600, 700)},
		{"a break within other work", day, 0, 250, list(work(0, 1000), rest(900, 1000), other(850, 950)), of(0, 750, 900, 1000), of(750, 900)},
		{"breaks that overlap are counted once", day, 0, 250, list(work(0, 1000), rest(100, 200), rest(150, 250)), of(0, 900), of(900, 1000)},
		{"parts that overlap are counted once", 0, 1001, 100, list(work(0, 700), other(300, 1000)), of(0, 1000), nil},
		{"parts that overlap are counted once, as many as AutoAfter", 0, 1000, 100, list(work(0, 700), other(300, 1000)), of(0, 900), of(900, 1000)},
		{"unsorted", 0, 1000, 150, list(other(500, 1000), work(0, 400), rest(400, 500)), of(0, 400, 500, 950), of(400, 500, 950, 1000)},
		{"two sessions make AutoAfter", 0, 400, 50, list(work(0, 200), work(500, 700)), of(0, 200, 500, 650), of(650, 700)},
		{"the whole day", 0, day, 100, list(work(0, day)), of(0, day-100), of(day-100, day)},
		{"the whole day but one second", 0, day, 100, list(work(0, day-1)), of(0, day-1), nil},
		{"the whole day, all of it to be a break", 0, day, day, list(work(0, day)), nil, of(0, day)},
		{"the whole day a break", 100, day, day, list(rest(0, day)), of(0, 100), of(100, day)},
	}
}

// acrossDays are parts of several days.
func acrossDays() []known {
	return []known{
		{"a part across a day's end", 0, 1000, 100, list(work(day-1000, day+500)), of(day-1000, day-100, day, day+500), of(day-100, day)},
		{"a part across a day's end, AutoAfter of both days", 0, 500, 100, list(work(day-1000, day+500)), of(day-1000, day-100, day, day+400), of(day-100, day, day+400, day+500)},
		{"a part across a day's end, AutoAfter of neither", 0, 1001, 100, list(work(day-1000, day+500)), of(day-1000, day+500), nil},
		{"a break across a day's end, paid on both days", 500, 0, 0, list(work(day-900, day-300), rest(day-300, day+400), work(day+400, day+900)), of(day-900, day+900), nil},
		{"a break across a day's end, paid in part on both days", 200, 0, 0, list(work(day-900, day-300), rest(day-300, day+400), work(day+400, day+900)),
			of(day-900, day-100, day, day+200, day+400, day+900), of(day-100, day, day+200, day+400)},
		{"a break across a day's end, without pay", 0, 0, 0, list(work(day-900, day-300), rest(day-300, day+400), work(day+400, day+900)), of(day-900, day-300, day+400, day+900), of(day-300, day+400)},
		{"a break across a day's end counts on each day by itself", day, 0, 350, list(work(day-900, day-300), rest(day-300, day+400), work(day+400, day+900)), of(day-900, day-350, day-300, day+900), of(day-350, day-300)},
		{"a break up to a day's end", 100, 0, 0, list(work(day-900, day-300), rest(day-300, day), work(day, day+900)), of(day-900, day-200, day, day+900), of(day-200, day)},
		{"a break from a day's beginning on", 100, 0, 0, list(work(day-900, day), rest(day, day+300), work(day+300, day+900)), of(day-900, day+100, day+300, day+900), of(day+100, day+300)},
		{"last seconds, and a break, that touch at a day's end", 0, 0, 300, list(work(day-900, day), rest(day, day+300), work(day+300, day+900)), of(day-900, day-300, day+300, day+900), of(day-300, day+300)},
		{"PaidBreak of each day", 50, 0, 0, list(work(0, 900), rest(100, 200), work(5*day, 5*day+900), rest(5*day+100, 5*day+200)), of(0, 150, 200, 900, 5*day, 5*day+150, 5*day+200, 5*day+900),
			of(150, 200, 5*day+150, 5*day+200)},
		{"AutoBreak of each day", 0, 900, 100, list(work(0, 900), work(day, day+899), work(2*day, 2*day+901)), of(0, 800, day, day+899, 2*day, 2*day+801), of(800, 900, 2*day+801, 2*day+901)},
		{"the first part is of the last day", 50, 0, 300, list(work(3*day, 3*day+900), rest(3*day+100, 3*day+200), work(9, 909)), of(9, 609, 3*day, 3*day+150, 3*day+200, 3*day+700),
			of(609, 909, 3*day+150, 3*day+200, 3*day+700, 3*day+900)},
		{"three days without an end", 0, day, 100, list(work(day-50, 4*day+50)), of(day-50, 2*day-100, 2*day, 3*day-100, 3*day, 4*day-100, 4*day, 4*day+50), of(2*day-100, 2*day, 3*day-100, 3*day, 4*day-100, 4*day)},
		{"a break of three days", 10, 0, 0, list(rest(day-50, 3*day+50)), of(day-50, day-40, day, day+10, 2*day, 2*day+10, 3*day, 3*day+10), of(day-40, day, day+10, 2*day, 2*day+10, 3*day, 3*day+10, 3*day+50)},
	}
}

// atEnds are parts at the ends of all time, and behind them.
func atEnds() []known {
	return []known{
		{"the first day", 10, 0, 100, list(work(0, 500), rest(0, 20)), of(0, 10, 20, 420), of(10, 20, 420, 500)},
		{"the last day", 10, 0, 100, list(work(end-500, end), rest(end-500, end-480)), of(end-500, end-490, end-480, end-80), of(end-490, end-480, end-80, end)},
		{"the last day, a break at its end", 10, 0, 0, list(work(end-500, end), rest(end-20, end)), of(end-500, end-10), of(end-10, end)},
		{"the first and the last second", 0, 0, 0, list(work(0, 1), rest(end-1, end)), of(0, 1), of(end-1, end)},
		{"the first and the last second, the other way", 0, 0, 0, list(rest(0, 1), work(end-1, end)), of(end-1, end), of(0, 1)},
		{"from below 0", 10, 0, 0, list(rest(-50, 50), work(50, 90)), of(0, 10, 50, 90), of(10, 50)},
		{"seconds below 0 do not count", 0, 91, 5, list(work(-50, 90)), of(0, 90), nil},
		{"from below 0 to as many as AutoAfter", 0, 90, 5, list(work(-50, 90)), of(0, 85), of(85, 90)},
		{"below 0 alone", 0, 0, 100, list(work(-90, 0), rest(-50, -20), rest(least, -1)), nil, nil},
		{"beyond the end", 10, 0, 0, list(work(end-90, end-50), rest(end-50, end+50)), of(end-90, end-40), of(end-40, end)},
		{"seconds beyond the end are no last ones", 0, 90, 20, list(work(end-90, end+50)), of(end-90, end-20), of(end-20, end)},
		{"seconds beyond the end do not count", 0, 91, 20, list(work(end-90, end+50)), of(end-90, end), nil},
		{"above the end alone", 0, 0, 100, list(work(end, end+90), rest(end+20, end+50), rest(end+day, greatest)), nil, nil},
		{"the least and the greatest numbers", 0, 0, 100, list(work(least, least+1), rest(least, least+1), work(greatest-1, greatest), rest(greatest-1, greatest)), nil, nil},
		{"to the greatest number", 10, 0, 0, list(rest(end-50, greatest)), of(end-50, end-40), of(end-40, end)},
		{"from the least number on", 10, 0, 0, list(rest(least, 50)), of(0, 10), of(10, 50)},
		{"the last two days", 0, 0, 100, list(work(end-day-500, end-day+500)), of(end-day-500, end-day-100, end-day, end-day+400), of(end-day-100, end-day, end-day+400, end-day+500)},
	}
}

// all are the cases whose answers are written out.
func all() []known {
	return slices.Concat(byBreaks(), byAuto(), acrossDays(), atEnds())
}

// P15.1, P15.2: parts whose answers are written out here; of a setup that may be its breaks alone tell.
func TestKnown(t *testing.T) {
	for _, c := range all() {
		for _, s := range []api.Setup{with(c.paid, c.after, c.auto), full(c.paid, c.after, c.auto)} {
			if !setup.Check(s) {
				t.Fatalf("%s: the setup may not be", c.name)
			}
			if paid, unpaid := Paid(s, c.segs); !slices.Equal(paid, c.yes) || !slices.Equal(unpaid, c.no) {
				t.Errorf("%s: Paid = %v, %v, want %v, %v", c.name, paid, unpaid, c.yes, c.no)
			}
			check(t, c.name, s, c.segs)
		}
	}
}

// P15.1: a day of several, written out here; days without a clock, and days that there are not, have nothing.
func TestDays(t *testing.T) {
	segs := list(work(day-1000, day-300), rest(day-300, day+400), work(day+400, day+2000), work(3*day, 4*day), rest(3*day+5, 3*day+10))
	s := with(100, 2000, 500)
	for n, want := range map[int][2][]api.Span{
		0:              {of(day-1000, day-200), of(day-200, day)},
		1:              {of(day, day+100, day+400, day+1900), of(day+100, day+400, day+1900, day+2000)},
		2:              {nil, nil},
		3:              {of(3*day, 4*day-495), of(4*day-495, 4*day)},
		4:              {nil, nil},
		allDays - 1:    {nil, nil},
		allDays:        {nil, nil},
		-1:             {nil, nil},
		-3:             {nil, nil},
		least:          {nil, nil},
		greatest:       {nil, nil},
		1<<62 + 1:      {nil, nil},
		-(1 << 62) + 1: {nil, nil},
	} {
		if paid, unpaid := OfDay(s, segs, n); !slices.Equal(paid, want[0]) || !slices.Equal(unpaid, want[1]) {
			t.Errorf("day %d: %v, %v, want %v", n, paid, unpaid, want)
		}
	}
}

// P15.1: days that there are not have nothing of parts that reach over all numbers, also where day times Day would wrap round.
func TestNoDays(t *testing.T) {
	everywhere := list(work(least, greatest), rest(-9*day, 9), rest(end-9, end+9*day))
	for _, s := range []api.Setup{with(0, 0, 0), with(5, 0, day), with(day, day, 1)} {
		for _, n := range []int{least, least + 1, -1 << 62, -1 << 40, -allDays, -2, -1, allDays, allDays + 1, 2 * allDays, 1 << 40, 1 << 57, 1 << 58, 1 << 62, greatest - 1, greatest} {
			if paid, unpaid := OfDay(s, everywhere, n); len(paid) > 0 || len(unpaid) > 0 {
				t.Errorf("%s: day %d: %v, %v", told(s), n, paid, unpaid)
			}
		}
	}
}

// P15.2: of all seconds each day is by itself, the first one and the last one too.
func TestWhole(t *testing.T) {
	segs := list(work(least, greatest))
	var lunches []api.Span
	var yes, no []api.Span
	for n := range allDays {
		from := n * day
		segs = append(segs, rest(from+100, from+200), rest(from+1000, from+1100))
		lunches = append(lunches, of(from+150, from+200, from+1000, from+1100)...)
		yes = append(yes, of(from, from+150, from+200, from+1000, from+1100, from+day-30)...)
		no = append(no, of(from+150, from+200, from+1000, from+1100, from+day-30, from+day)...)
	}
	if paid, unpaid := Paid(with(50, day, 230), segs); !slices.Equal(paid, yes) || !slices.Equal(unpaid, no) {
		t.Errorf("%v, %v", paid, unpaid)
	}
	if paid, unpaid := Paid(with(50, day, 200), segs); !slices.Equal(paid, span.Minus(of(0, end), lunches)) || !slices.Equal(unpaid, lunches) {
		t.Errorf("%v, %v", paid, unpaid)
	}
	if paid, unpaid := Paid(with(day, 0, 0), segs); !slices.Equal(paid, of(0, end)) || len(unpaid) > 0 {
		t.Errorf("%v, %v", paid, unpaid)
	}
	if paid, unpaid := Paid(with(0, 0, day), segs); len(paid) > 0 || !slices.Equal(unpaid, of(0, end)) {
		t.Errorf("%v, %v", paid, unpaid)
	}
}

// P15.1, P15.2: all numbers about a shift's clock and breaks, as PaidBreak, AutoAfter and AutoBreak.
func TestEdges(t *testing.T) {
	segs := list(rest(40, 50), work(50, 80), rest(80, 95), gap(95, 100), rest(97, 99), other(105, 130), rest(130, 133))
	for _, paid := range []int{0, 1, 9, 10, 11, 24, 25, 26, 27, 28, 29, 30, 31, day - 1, day} {
		for _, after := range []int{0, 1, 84, 85, 86, day} {
			for _, auto := range []int{0, 1, 29, 30, 31, 54, 55, 56, 84, 85, 86, 87, day - 1, day} {
				s := with(paid, after, auto)
				yes, no := OfDay(s, segs, 0)
				wantYes, wantNo := said(s, segs, 0)
				if !slices.Equal(yes, wantYes) || !slices.Equal(no, wantNo) {
					t.Fatalf("%s: %v, %v, want %v, %v", told(s), yes, no, wantYes, wantNo)
				}
				if yes, no := Paid(s, segs); !slices.Equal(yes, wantYes) || !slices.Equal(no, wantNo) {
					t.Fatalf("%s: of all days %v, %v, want %v, %v", told(s), yes, no, wantYes, wantNo)
				}
			}
		}
	}
}

// P15.1, P15.2: a part, and a break, with all edges as their bounds.
func TestBounds(t *testing.T) {
	bounds := []int{least, -1, 0, 1, day - 1, day, day + 1, end - 1, end, end + 1, greatest}
	few := []int{-day, 0, 20, day, end - day, end - 20, end + 20}
	for i, from := range bounds {
		for j, to := range bounds {
			// What lies far apart has the seconds of all days, which are counted one by one: so it is told by TestWhole.
			if to > from && from < 2*day && to > end-2*day {
				continue
			}
			s := with(10*(i%3), 5*(j%4), 7*(i+j)%50)
			check(t, "a part", s, list(work(from, to)))
			check(t, "a break", s, list(rest(from, to)))
			for k, at := range few {
				check(t, "both", s, list(work(from, to), rest(at, at+15+k)))
				check(t, "both, the other way", s, list(rest(from, to), work(at, at+15+k)))
			}
		}
	}
}

// drawn is a setup of breaks by chance.
func drawn(r *rand.Rand) api.Setup {
	bound := func() int {
		switch r.Intn(6) {
		case 0:
			return []int{0, 1, day - 1, day}[r.Intn(4)]
		case 1:
			return r.Intn(day + 1)
		}
		return r.Intn(150)
	}
	return with(bound(), bound(), bound())
}

// some is parts by chance: that lie close, or about the ends of days, or are none, of all kinds, breaks the most.
func some(r *rand.Rand) []api.Seg {
	base := []int{0, day, 3 * day, 200 * day, end - 2*day, end - day}[r.Intn(6)]
	bound := func() int {
		switch r.Intn(9) {
		case 0:
			return base + r.Intn(2*day) - day/2
		case 1:
			return base + r.Intn(3)*day
		case 2:
			return base + day + r.Intn(120) - 60
		}
		return base + r.Intn(120) - 30
	}
	var l []api.Seg
	for range r.Intn(8) {
		p := api.Seg{From: bound(), To: bound(), Kind: []int{0, 1, 2, 3, 3, 3, 4, -3}[r.Intn(8)], ID: r.Intn(9), Code: r.Intn(9)}
		if r.Intn(6) > 0 && p.From > p.To {
			p.From, p.To = p.To, p.From
		}
		l = append(l, p)
	}
	return l
}

// P15.1, P15.2: lists of several parts.
func TestSome(t *testing.T) {
	r := rand.New(rand.NewSource(151))
	for i := range 3000 {
		check(t, strconv.Itoa(i), drawn(r), some(r))
	}
}

// short tells that the parts have the seconds of so few days that they may be counted.
func short(segs []api.Seg) bool {
	n := 0
	for day := range allDays {
		if has(segs, day) {
			n++
		}
	}
	return n < 9
}

// P15.1, P15.2, R1: numbers of all kinds, in setups, in hand-made parts, and as days.
func TestHandMade(t *testing.T) {
	r := rand.New(rand.NewSource(152))
	wild := func() int {
		return []int{0, 1, 3, -1, day, day - 1, day + 1, end, end - 1, end + 1, least, greatest, 1 << 62, -1 << 62, r.Intn(end), r.Intn(day), r.Int(), -r.Int()}[r.Intn(18)]
	}
	for range 6000 {
		s := with(wild(), wild(), wild())
		var segs []api.Seg
		for range r.Intn(5) {
			segs = append(segs, api.Seg{From: wild(), To: wild(), Kind: []int{0, 1, 2, 3, wild()}[r.Intn(5)], ID: wild(), Code: wild()})
		}
		n := []int{wild(), r.Intn(allDays)}[r.Intn(2)]
		if !setup.Check(s) {
			none(t, "hand-made", s, segs, n)
			continue
		}
		yes, no := OfDay(s, segs, n)
		wantYes, wantNo := said(s, segs, n)
		if !slices.Equal(yes, wantYes) || !slices.Equal(no, wantNo) {
			t.Fatalf("%s: OfDay(%v, %d) = %v, %v, want %v, %v", told(s), segs, n, yes, no, wantYes, wantNo)
		}
		if Paid(s, segs); short(segs) {
			check(t, "hand-made", s, segs)
		}
	}
}

// none holds a setup that may not be against there being nothing.
func none(t *testing.T, name string, s api.Setup, segs []api.Seg, n int) {
	t.Helper()
	if setup.Check(s) {
		t.Fatalf("%s: the setup may be", name)
	}
	if paid, unpaid := Paid(s, segs); len(paid) > 0 || len(unpaid) > 0 {
		t.Errorf("%s: %s: Paid(%v) = %v, %v", name, told(s), segs, paid, unpaid)
	}
	if paid, unpaid := OfDay(s, segs, n); len(paid) > 0 || len(unpaid) > 0 {
		t.Errorf("%s: %s: OfDay(%v, %d) = %v, %v", name, told(s), segs, n, paid, unpaid)
	}
}

// noneAtAll holds a setup that may not be against there being nothing of parts of all kinds.
func noneAtAll(t *testing.T, name string, s api.Setup) {
	t.Helper()
	for _, segs := range [][]api.Seg{nil, shift(), list(work(0, day)), list(rest(0, day)), list(work(0, end), rest(5, 2*day))} {
		for _, n := range []int{-1, 0, 1, allDays - 1, allDays} {
			none(t, name, s, segs, n)
		}
	}
}

// P15.1, P15.2: a setup that may not be by its PaidBreak, its AutoAfter or its AutoBreak alone.
func TestBreaksThatMayNotBe(t *testing.T) {
	for _, wrong := range []int{least, -1 << 62, -end, -day, -600, -1, day + 1, 2 * day, end, 1 << 62, greatest} {
		for _, fair := range []int{0, 1, 600, day - 1, day} {
			noneAtAll(t, "PaidBreak alone", with(wrong, fair, fair))
			noneAtAll(t, "AutoAfter alone", with(fair, wrong, fair))
			noneAtAll(t, "AutoBreak alone", with(fair, fair, wrong))
		}
		noneAtAll(t, "all three", with(wrong, wrong, wrong))
	}
}

// P15.1, P15.2: a setup that may not be by anything else.
func TestSetupsThatMayNotBe(t *testing.T) {
	noneAtAll(t, "a setup without anything", api.Setup{})
	noneAtAll(t, "breaks alone", api.Setup{PaidBreak: 600, AutoAfter: 21600, AutoBreak: 1800})
	for name, spoil := range map[string]func(*api.Setup){
		"Places":    func(s *api.Setup) { s.Places = 0 },
		"Ways":      func(s *api.Setup) { s.Ways = []api.Way{{A: 0, B: 0, Meters: 1}} },
		"Pace":      func(s *api.Setup) { s.Pace = api.Ratio{Num: 2, Den: 2} },
		"Elements":  func(s *api.Setup) { s.Elements = make([]api.Element, 1) },
		"Classes":   func(s *api.Setup) { s.Classes = make([]api.Ratio, 1) },
		"Gears":     func(s *api.Setup) { s.Gears = make([]api.Ratio, 1) },
		"Allow":     func(s *api.Setup) { s.Allow = 101 },
		"Unit":      func(s *api.Setup) { s.Unit = 0 },
		"Cap":       func(s *api.Setup) { s.Cap = 59 },
		"DayReg":    func(s *api.Setup) { s.DayReg = 1 },
		"DayOver":   func(s *api.Setup) { s.DayOver = day + 1 },
		"WeekReg":   func(s *api.Setup) { s.WeekReg = 7*day + 1 },
		"NightFrom": func(s *api.Setup) { s.NightFrom = -1 },
		"NightTo":   func(s *api.Setup) { s.NightTo = day + 1 },
		"Rates":     func(s *api.Setup) { s.Rates = nil },
		"Diff":      func(s *api.Setup) { s.Diff = -1 },
		"Least":     func(s *api.Setup) { s.Least = 100001 },
		"Fault":     func(s *api.Setup) { s.Fault = -1 },
		"Tiers":     func(s *api.Setup) { s.Tiers = []api.Tier{{Least: 1}, {Least: 1}} },
	} {
		for _, s := range []api.Setup{with(0, 0, 0), with(600, 21600, 1800), with(day, day, day)} {
			spoil(&s)
			noneAtAll(t, name, s)
		}
	}
}

// seconds are the spans of all parts' seconds, and of those of breaks.
func seconds(segs []api.Seg) (clock, rests []api.Span) {
	for _, p := range segs {
		clock = append(clock, api.Span{From: p.From, To: p.To})
		if p.Kind == api.SBreak {
			rests = append(rests, api.Span{From: p.From, To: p.To})
		}
	}
	return span.Norm(clock...), span.Norm(rests...)
}

// makes holds what is paid, and what is not, against being a clock together, and sharing no second.
func makes(t *testing.T, s api.Setup, segs []api.Seg, paid, unpaid, clock []api.Span) {
	t.Helper()
	if got := span.Norm(append(slices.Clone(paid), unpaid...)...); !slices.Equal(got, clock) {
		t.Fatalf("%s: %v: %v and %v make %v, want %v", told(s), segs, paid, unpaid, got, clock)
	}
	if both := span.And(paid, unpaid); len(both) > 0 || span.Size(paid)+span.Size(unpaid) != span.Size(clock) {
		t.Fatalf("%s: %v: %v and %v share %v", told(s), segs, paid, unpaid, both)
	}
	if !slices.Equal(span.Norm(paid...), paid) || !slices.Equal(span.Norm(unpaid...), unpaid) {
		t.Fatalf("%s: %v: %v, %v", told(s), segs, paid, unpaid)
	}
}

// P15.3: what is paid, and what is unpaid, are the clock, and share no second: of all days, and of each.
func TestMakeTheClock(t *testing.T) {
	r := rand.New(rand.NewSource(153))
	for range 1500 {
		s, segs := drawn(r), some(r)
		clock, _ := seconds(segs)
		paid, unpaid := Paid(s, segs)
		makes(t, s, segs, paid, unpaid, clock)
		for _, n := range daysAbout(segs) {
			if !isDay(n) {
				continue
			}
			hours := of(n*day, n*day+day)
			yes, no := OfDay(s, segs, n)
			makes(t, s, segs, yes, no, span.And(clock, hours))
			if !slices.Equal(yes, span.And(paid, hours)) || !slices.Equal(no, span.And(unpaid, hours)) {
				t.Fatalf("%s: %v: of day %d %v, %v, of all days %v, %v", told(s), segs, n, yes, no, paid, unpaid)
			}
		}
	}
}

// P15.3: a day does not hang on others: what they have beside it, or have no more, changes nothing of it.
func TestDaysApart(t *testing.T) {
	r := rand.New(rand.NewSource(154))
	for range 1500 {
		s, segs := drawn(r), some(r)
		for _, n := range daysAbout(segs) {
			if !isDay(n) {
				continue
			}
			var alone []api.Seg
			for _, p := range segs {
				p.From, p.To = max(p.From, n*day), min(p.To, n*day+day)
				alone = append(alone, p)
			}
			more := append(slices.Clone(segs), work(n*day-r.Intn(2*day), n*day), rest(n*day-r.Intn(500), n*day), rest(n*day+day, n*day+day+r.Intn(500)), work(n*day+day, n*day+2*day))
			yes, no := OfDay(s, segs, n)
			for _, l := range [][]api.Seg{alone, more} {
				if a, b := OfDay(s, l, n); !slices.Equal(a, yes) || !slices.Equal(b, no) {
					t.Fatalf("%s: day %d: of %v %v, %v, of %v %v, %v", told(s), n, segs, yes, no, l, a, b)
				}
			}
			if a, b := Paid(s, alone); !slices.Equal(a, yes) || !slices.Equal(b, no) {
				t.Fatalf("%s: day %d alone: of %v %v, %v, want %v, %v", told(s), n, alone, a, b, yes, no)
			}
		}
	}
}

// P15.3: what is paid of a day's breaks is no more than PaidBreak, the first ones; and breaks, with what is taken, have AutoBreak, if the clock has as much.
func TestHowMuch(t *testing.T) {
	r := rand.New(rand.NewSource(155))
	for range 1500 {
		s, segs := drawn(r), some(r)
		for _, n := range daysAbout(segs) {
			if !isDay(n) {
				continue
			}
			clock, rests := seconds(segs)
			hours := of(n*day, n*day+day)
			clock, rests = span.And(clock, hours), span.And(rests, hours)
			yes, no := OfDay(s, segs, n)
			if got, want := span.Size(span.And(yes, rests)), min(span.Size(rests), s.PaidBreak); got != want {
				t.Fatalf("%s: %v: day %d: %d of breaks are paid, want %d", told(s), segs, n, got, want)
			}
			worked := span.Minus(clock, rests)
			taken, want := span.Size(span.And(no, worked)), 0
			if span.Size(clock) >= s.AutoAfter {
				want = max(0, min(span.Size(worked), s.AutoBreak-span.Size(rests)))
			}
			if taken != want {
				t.Fatalf("%s: %v: day %d: %d are taken, want %d", told(s), segs, n, taken, want)
			}
		}
	}
}

// P15.2, R4: the same seconds are paid, however the parts are told: in another order, in pieces, by other events, with nothing beside them.
func TestSameSeconds(t *testing.T) {
	r := rand.New(rand.NewSource(156))
	for range 1500 {
		s, segs := drawn(r), some(r)
		others := list(rest(9, 9), work(7, 3), rest(-5, 0), work(end, end+9))
		for _, p := range segs {
			if p.ID, p.Code = r.Int(), -r.Int(); p.Kind != api.SBreak {
				p.Kind = []int{api.SGap, api.SDirect, api.SIndirect, 4, greatest}[r.Intn(5)]
			}
			first, second := p, p
			first.To = p.From + r.Intn(max(1, p.To-p.From))
			second.From = first.To
			others = append(others, second, first)
		}
		r.Shuffle(len(others), func(i, j int) { others[i], others[j] = others[j], others[i] })
		paid, unpaid := Paid(s, segs)
		a, b := Paid(s, others)
		if !slices.Equal(paid, a) || !slices.Equal(unpaid, b) {
			t.Fatalf("%s: %v, %v: %v, %v and %v, %v", told(s), segs, others, paid, unpaid, a, b)
		}
	}
}

// roomy is the parts with spare room behind them, in which there stands what would change the answers; and all of that memory.
func roomy(l []api.Seg) (segs, all []api.Seg) {
	all = append(slices.Clone(l), work(0, 3*day), rest(50, 90), rest(3*day, 3*day+9), gap(-7, 7), other(9, 2), work(least, 5))
	return all[:len(l)], all
}

// ask is the two lists of an answer.
type ask func() ([]api.Span, []api.Span)

// own holds a call against its answers being in memory of their own, apart from one another's, and from all that was handed in.
func own(t *testing.T, name string, all []api.Seg, call ask) {
	t.Helper()
	was := slices.Clone(all)
	paid, unpaid := call()
	paidToo, unpaidToo := call()
	wantPaid, wantUnpaid := slices.Clone(paidToo), slices.Clone(unpaidToo)
	spoil := func(l []api.Span) {
		// Whoever has an answer may change it, and all room behind it.
		for i := range l[:cap(l)] {
			l[:cap(l)][i] = api.Span{From: -99, To: 99}
		}
	}
	if spoil(paid); !slices.Equal(unpaid, wantUnpaid) {
		t.Errorf("%s: what is paid shares memory with what is not: %v", name, unpaid)
	}
	paid, unpaid = call()
	if spoil(unpaid); !slices.Equal(paid, wantPaid) {
		t.Errorf("%s: what is unpaid shares memory with what is paid: %v", name, paid)
	}
	if spoil(paid); !slices.Equal(paidToo, wantPaid) || !slices.Equal(unpaidToo, wantUnpaid) {
		t.Errorf("%s: two answers share memory: %v, %v", name, paidToo, unpaidToo)
	}
	if !slices.Equal(all, was) {
		t.Errorf("%s: what was handed in was changed: %v", name, all)
	}
	// And whoever handed a list in may change it.
	for i := range all {
		all[i] = rest(3, 4)
	}
	if !slices.Equal(paidToo, wantPaid) || !slices.Equal(unpaidToo, wantUnpaid) {
		t.Errorf("%s: what was handed in is kept: %v, %v", name, paidToo, unpaidToo)
	}
	copy(all, was)
	if paid, unpaid := call(); !slices.Equal(paid, wantPaid) || !slices.Equal(unpaid, wantUnpaid) {
		t.Errorf("%s: asked again: %v, %v", name, paid, unpaid)
	}
}

// R3: what is handed in is neither changed nor kept, its spare room included; answers are in memory of their own.
func TestMemory(t *testing.T) {
	for _, c := range all() {
		segs, memory := roomy(c.segs)
		s := with(c.paid, c.after, c.auto)
		check(t, c.name, s, segs)
		own(t, c.name, memory, func() ([]api.Span, []api.Span) { return Paid(s, segs) })
		for _, n := range []int{-1, 0, 1, allDays - 1} {
			own(t, c.name, memory, func() ([]api.Span, []api.Span) { return OfDay(s, segs, n) })
		}
	}
}

// R3: a setup that is handed in stays as it was, with the spare room of its lists, and is not kept.
func TestSetupStays(t *testing.T) {
	s := full(600, 21600, 1800)
	rates := []int{1500, 2000, -7, 9}
	tiers := []api.Tier{{Least: 100, Bonus: 150}, {Least: -1, Bonus: -1}}
	s.Rates, s.Tiers = rates[:2], tiers[:1]
	before, e := setup.Write(s)
	Paid(s, shift())
	OfDay(s, shift(), 0)
	after, f := setup.Write(s)
	if e != api.OK || f != api.OK || !slices.Equal(before, after) {
		t.Errorf("%v", s)
	}
	if !slices.Equal(rates, []int{1500, 2000, -7, 9}) || !slices.Equal(tiers, []api.Tier{{Least: 100, Bonus: 150}, {Least: -1, Bonus: -1}}) {
		t.Errorf("%v, %v", rates, tiers)
	}
	s.PaidBreak = 0
	if _, unpaid := Paid(s, shift()); !slices.Equal(unpaid, of(4000, 5000)) {
		t.Errorf("%v", unpaid)
	}
}

// P15.1, P15.2: as many parts as a long list may have, on few days and on all, in a time that does not rise with their square.
func TestMany(t *testing.T) {
	const many = 300000
	var dense, far []api.Seg
	for i := many - 1; i >= 0; i-- {
		dense = append(dense, work(4*i, 4*i+2), rest(4*i+2, 4*i+3))
		far = append(far, work(100*i, 100*i+50), rest(100*i+50, 100*i+60))
	}
	paid, unpaid := Paid(with(100, 0, 0), dense)
	// 13 days are whole ones, and the last one has more breaks than are paid too.
	if whole := 14; span.Size(unpaid) != many-100*whole || span.Size(paid) != 2*many+100*whole {
		t.Errorf("dense: %d paid, %d unpaid", span.Size(paid), span.Size(unpaid))
	}
	paid, unpaid = Paid(with(day, 0, 10000), far)
	// 347 days are whole ones, and the last one has breaks of 1920 seconds.
	if whole := 347; span.Size(unpaid) != 1360*whole+10000-1920 || span.Size(paid)+span.Size(unpaid) != 60*many {
		t.Errorf("far: %d paid, %d unpaid", span.Size(paid), span.Size(unpaid))
	}
	if paid, unpaid := OfDay(with(100, 0, 0), far, 5); span.Size(paid) != 864*50+100 || span.Size(unpaid) != 864*10-100 {
		t.Errorf("a day: %d paid, %d unpaid", span.Size(paid), span.Size(unpaid))
	}
}
