package punch

import (
	"math"
	"math/big"
	"math/rand"
	"slices"
	"sort"
	"strconv"
	"testing"

	"lumper/api"
	"lumper/span"
)

const (
	// day, week and end are as the chapter says them.
	day  = 86400
	week = 604800
	end  = 53 * week

	least    = math.MinInt
	greatest = math.MaxInt
)

// of is spans, from and to by turns.
func of(l ...int) []api.Span {
	var out []api.Span
	for i := 0; i+1 < len(l); i += 2 {
		out = append(out, api.Span{From: l[i], To: l[i+1]})
	}
	return out
}

// with is a setup of a unit and a cap, whatever these are.
func with(unit, cap int) api.Setup { return api.Setup{Unit: unit, Cap: cap} }

// about are numbers, each with those next to it, and far ones of all kinds.
func about(l ...int) []int {
	out := []int{least, least + 1, -1 << 62, -1 << 32, -week, -day, -1, 0, 1, 1 << 32, 1 << 40, 1 << 62, greatest - 1, greatest}
	for _, n := range l {
		out = append(out, n-1, n, n+1)
	}
	slices.Sort(out)
	return slices.Compact(out)
}

// times are seconds about the ends of days, of weeks, and of all, and the numbers beyond.
func times() []int {
	return about(2, day/2, day, 2*day, 6*day, week, week+day, 2*week, 30*week, 52*week-1, 52*week, end-week, end-day, end-day/2, end-2, end-1, end, end+day, end+week, 2*end)
}

// taken is what the document takes a time for; most is the greatest one.
func taken(t, most int) int {
	if t < 0 {
		return 0
	}
	if t > most {
		return most
	}
	return t
}

// rounded is what the document says of Round, of exact numbers: of the multiples on both sides the nearer one.
func rounded(t, unit int) int {
	t = taken(t, end)
	if unit < 1 {
		return t
	}
	exact, step := big.NewInt(int64(t)), big.NewInt(int64(unit))
	below := new(big.Int).Mul(new(big.Int).Div(exact, step), step)
	above := new(big.Int).Add(below, step)
	nearest := below
	if new(big.Int).Sub(above, exact).Cmp(new(big.Int).Sub(exact, below)) <= 0 {
		nearest = above
	}
	if nearest.Cmp(big.NewInt(end)) > 0 {
		return end
	}
	return int(nearest.Int64())
}

// numberOf is the number of the stretch of that size that a time is a second of, found by trying.
func numberOf(t, size int) int {
	t = taken(t, end-1)
	return sort.Search(end/size, func(n int) bool { return t < (n+1)*size })
}

// touched is what the document says of Touch.
func touched(s api.Setup, t int) (int, int) {
	t = taken(t, end-1)
	far := taken(s.Unit, week) + taken(s.Cap, week)
	return numberOf(t-far, week), numberOf(t+far, week)
}

// member is what the document says of a second of a set.
func member(l []api.Span, t int) bool {
	return t >= 0 && t < end && slices.ContainsFunc(l, func(s api.Span) bool { return s.From <= t && t < s.To })
}

// part is the plain spans of the set's seconds from one on, below another one, asked once between each two turns.
func part(l []api.Span, from, to int) []api.Span {
	turns := []int{from, to}
	for _, s := range l {
		for _, t := range []int{s.From, s.To} {
			if from < t && t < to {
				turns = append(turns, t)
			}
		}
	}
	sort.Ints(turns)
	var out []api.Span
	for i, t := range turns[1:] {
		switch n := len(out); {
		case turns[i] == t || !member(l, turns[i]):
		case n > 0 && out[n-1].To == turns[i]:
			out[n-1].To = t
		default:
			out = append(out, api.Span{From: turns[i], To: t})
		}
	}
	return out
}

// parted is what the document says of OfDay, and of OfWeek, by how long these are.
func parted(l []api.Span, n, size int) []api.Span {
	if n < 0 || n >= end/size {
		return nil
	}
	return part(l, n*size, (n+1)*size)
}

// dayed is what the document says of Days, each day tried.
func dayed(l []api.Span) []int {
	var out []int
	for n := range 371 {
		if slices.ContainsFunc(l, func(s api.Span) bool { return max(s.From, n*day) < min(s.To, (n+1)*day) }) {
			out = append(out, n)
		}
	}
	return out
}

// isPlain is what the document says of plain spans.
func isPlain(l []api.Span) bool {
	for i, s := range l {
		if s.From < 0 || s.From >= s.To || s.To > end || i > 0 && l[i-1].To >= s.From {
			return false
		}
	}
	return true
}

// some is a list by chance: of spans that lie close, or about the ends of days and weeks, or reach far, or are none.
func some(r *rand.Rand) []api.Span {
	base := []int{0, day, 3 * day, week, week + 2*day, 20 * week, end - 2*day, end - week}[r.Intn(8)]
	bound := func() int {
		switch r.Intn(8) {
		case 0:
			return times()[r.Intn(len(times()))]
		case 1:
			return base + r.Intn(21*day) - 7*day
		case 2:
			return base + r.Intn(5)*day
		}
		return base + r.Intn(40) - 20
	}
	var l []api.Span
	for range r.Intn(7) {
		s := api.Span{From: bound(), To: bound()}
		if r.Intn(6) > 0 && s.From > s.To {
			s.From, s.To = s.To, s.From
		}
		l = append(l, s)
	}
	return l
}

// checkParts holds OfDay, OfWeek and Days of a list against the document's words, at all days and weeks about its bounds; the list stays as it was.
func checkParts(t *testing.T, name string, l []api.Span) {
	t.Helper()
	was := slices.Clone(l[:cap(l)])
	days, weeks := []int{-1, 0, 370, 371}, []int{-1, 0, 52, 53}
	for _, s := range l {
		for _, at := range []int{s.From, s.To} {
			d, w := numberOf(at, day), numberOf(at, week)
			days, weeks = append(days, d-1, d, d+1), append(weeks, w-1, w, w+1)
		}
	}
	for _, n := range days {
		if got, want := OfDay(l, n), parted(l, n, day); !slices.Equal(got, want) || !isPlain(got) {
			t.Fatalf("%s: OfDay(%v, %d) = %v, want %v", name, l, n, got, want)
		}
	}
	for _, n := range weeks {
		if got, want := OfWeek(l, n), parted(l, n, week); !slices.Equal(got, want) || !isPlain(got) {
			t.Fatalf("%s: OfWeek(%v, %d) = %v, want %v", name, l, n, got, want)
		}
	}
	if got, want := Days(l), dayed(l); !slices.Equal(got, want) {
		t.Fatalf("%s: Days(%v) = %v, want %v", name, l, got, want)
	}
	if !slices.Equal(l[:cap(l)], was) {
		t.Fatalf("%s: %v was changed: %v", name, was, l[:cap(l)])
	}
}

// P11.1: the chapter's examples.
func TestExamples(t *testing.T) {
	if a, b := Round(450, 900), Round(449, 900); a != 900 || b != 0 {
		t.Errorf("%d, %d", a, b)
	}
	// Who came at 8 and 7 minutes came at 8; at 8 and 8 minutes, at 8 and a quarter.
	if a, b := Round(8*3600+7*60, 900), Round(8*3600+8*60, 900); a != 8*3600 || b != 8*3600+900 {
		t.Errorf("%d, %d", a, b)
	}
}

// P11.1: times and units that the document names.
func TestRound(t *testing.T) {
	for _, c := range []struct{ t, unit, want int }{
		{0, 900, 0},
		{1, 900, 0},
		{899, 900, 900},
		{900, 900, 900},
		{901, 900, 900},
		{1349, 900, 900},
		{1350, 900, 1800},
		{1351, 900, 1800},
		{3, 7, 0},
		{4, 7, 7},
		{10, 7, 7},
		{11, 7, 14},
		{1, 2, 2},
		{3, 2, 4},
		{1799, 3600, 0},
		{1800, 3600, 3600},
		// A unit of 1, and below.
		{12345, 1, 12345},
		{12345, 0, 12345},
		{12345, -1, 12345},
		{12345, -900, 12345},
		{12345, least, 12345},
		{-7, 0, 0},
		{-7, -900, 0},
		{least, least, 0},
		{end, 0, end},
		{end + 7, 0, end},
		{end + 7, -900, end},
		{greatest, least, end},
		// Times below 0, at the end of all time, and above it.
		{-1, 1, 0},
		{-449, 900, 0},
		{-900, 900, 0},
		{-12345, 900, 0},
		{least, 900, 0},
		{least, 1, 0},
		{end - 1, 1, end - 1},
		{end - 1, 900, end},
		{end - 450, 900, end},
		{end - 451, 900, end - 900},
		{end, 900, end},
		{end, 1, end},
		{end + 1, 1, end},
		{end + 900, 900, end},
		{greatest, 1, end},
		{greatest, 900, end},
		// Units that do not part all of time: the multiple ahead of its end is nearer, or the one behind it, which is no time.
		{end, 1000, end - 400},
		{end + 600, 1000, end - 400},
		{greatest, 1000, end - 400},
		{end - 1, 1000, end - 400},
		{end - 900, 1000, end - 400},
		{end - 901, 1000, end - 1400},
		{end, 3590, end},
		{end + 5000, 3590, end},
		{end - 1, 3590, end},
		{end - 1085, 3590, end},
		{end - 1086, 3590, end - 2880},
		// Units greater than all time.
		{end, end, end},
		{end / 2, end, end},
		{end/2 - 1, end, 0},
		{0, end, 0},
		{end, end + 1, end},
		{end - 1, 2*end - 2, end},
		{end - 1, 2*end - 1, 0},
		{end - 1, 2 * end, 0},
		{end, 2 * end, end},
		{greatest, 2 * end, end},
		{end, 2*end + 1, 0},
		{greatest, 2*end + 1, 0},
		{greatest, greatest, 0},
		{end, greatest, 0},
		{1, greatest, 0},
		{0, greatest, 0},
		{least, greatest, 0},
	} {
		if n := Round(c.t, c.unit); n != c.want || n != rounded(c.t, c.unit) {
			t.Errorf("Round(%d, %d) = %d, want %d", c.t, c.unit, n, c.want)
		}
	}
}

// units are numbers that a time may be rounded by.
func units() []int {
	return about(2, 3, 7, 12, 60, 100, 900, 1000, 3590, 3600, day, week, end/3, end/2, end, 2*end, 3*end)
}

// P11.1: all units with all times about their multiples, and about the middles between these, held against exact numbers.
func TestRoundExact(t *testing.T) {
	for _, unit := range units() {
		near := times()
		if unit > 0 && unit <= end {
			for _, times := range []int{1, 2, 3, 1000, end/unit - 1, end / unit, end/unit + 1} {
				near = append(near, about(times*unit, times*unit+unit/2, times*unit-unit/2)...)
			}
		}
		for _, at := range near {
			if n, want := Round(at, unit), rounded(at, unit); n != want {
				t.Fatalf("Round(%d, %d) = %d, want %d", at, unit, n, want)
			}
		}
	}
}

// P11.1: all units that a setup may have, about the first multiples and the last ones, and the middles between these.
func TestRoundSetups(t *testing.T) {
	for unit := 1; unit <= 3600; unit++ {
		for _, base := range []int{0, 7 * unit, end / unit * unit} {
			for _, d := range []int{-unit, -(unit + 1) / 2, -unit / 2, -1, 0, 1, (unit - 1) / 2, unit / 2, (unit + 1) / 2, unit} {
				if n, want := Round(base+d, unit), rounded(base+d, unit); n != want {
					t.Fatalf("Round(%d, %d) = %d, want %d", base+d, unit, n, want)
				}
			}
		}
	}
}

// P11.2: the first and the last second of a day, of a week, and of all, and times beyond.
func TestDayAndWeek(t *testing.T) {
	for _, c := range []struct{ t, day, week int }{
		{0, 0, 0},
		{1, 0, 0},
		{43200, 0, 0},
		{86399, 0, 0},
		{86400, 1, 0},
		{86401, 1, 0},
		{172799, 1, 0},
		{172800, 2, 0},
		{518399, 5, 0},
		{518400, 6, 0},
		{604799, 6, 0},
		{604800, 7, 1},
		{691199, 7, 1},
		{691200, 8, 1},
		{1209599, 13, 1},
		{1209600, 14, 2},
		{31449599, 363, 51},
		{31449600, 364, 52},
		{end - day - 1, 369, 52},
		{end - day, 370, 52},
		{end - 1, 370, 52},
		{end, 370, 52},
		{end + 1, 370, 52},
		{end + day, 370, 52},
		{end + week, 370, 52},
		{1 << 40, 370, 52},
		{greatest, 370, 52},
		{-1, 0, 0},
		{-86400, 0, 0},
		{-604800, 0, 0},
		{least, 0, 0},
	} {
		if d, w := Day(c.t), Week(c.t); d != c.day || w != c.week {
			t.Errorf("%d: day %d, week %d, want %d, %d", c.t, d, w, c.day, c.week)
		}
	}
	for _, at := range times() {
		if d, w := Day(at), Week(at); d != numberOf(at, day) || w != numberOf(at, week) {
			t.Errorf("%d: day %d, week %d", at, d, w)
		}
	}
}

// P11.2: the first and the last second of each day, and of each week.
func TestEachDayAndWeek(t *testing.T) {
	for n := range 371 {
		if a, b := Day(n*day), Day(n*day+day-1); a != n || b != n {
			t.Errorf("day %d: %d, %d", n, a, b)
		}
	}
	for n := range 53 {
		if a, b := Week(n*week), Week(n*week+week-1); a != n || b != n {
			t.Errorf("week %d: %d, %d", n, a, b)
		}
	}
}

// P11.2: what is touched of ordinary setups, at the first and the last second of a week and of all.
func TestTouch(t *testing.T) {
	for _, c := range []struct{ unit, cap, t, first, last int }{
		{900, 36000, 0, 0, 0},
		{900, 36000, 36900, 0, 0},
		{900, 36000, week - 36901, 0, 0},
		{900, 36000, week - 36900, 0, 1},
		{900, 36000, week - 1, 0, 1},
		{900, 36000, week, 0, 1},
		{900, 36000, week + 36899, 0, 1},
		{900, 36000, week + 36900, 1, 1},
		{900, 36000, 2*week - 36901, 1, 1},
		{900, 36000, 2*week - 36900, 1, 2},
		{900, 36000, 52*week - 1, 51, 52},
		{900, 36000, 52 * week, 51, 52},
		{900, 36000, 52*week + 36900, 52, 52},
		{900, 36000, end - 1, 52, 52},
		{900, 36000, end, 52, 52},
		{900, 36000, end + 36901, 52, 52},
		{900, 36000, greatest, 52, 52},
		{900, 36000, -1, 0, 0},
		{900, 36000, -36901, 0, 0},
		{900, 36000, least, 0, 0},
		// Neither reaches anywhere.
		{0, 0, week - 1, 0, 0},
		{0, 0, week, 1, 1},
		{-1, -1, week - 1, 0, 0},
		{-1, -1, week, 1, 1},
		{least, least, week - 1, 0, 0},
		{least, least, week, 1, 1},
		{least, least, greatest, 52, 52},
		// One of them alone, and the other one does not take away from it.
		{1, 0, week - 1, 0, 1},
		{0, 1, week - 1, 0, 1},
		{1, -5, week - 1, 0, 1},
		{-5, 1, week - 1, 0, 1},
		{1, 0, week, 0, 1},
		{0, 1, week, 0, 1},
		{1, 0, week - 2, 0, 0},
		{0, 1, week + 1, 1, 1},
		{1, least, week, 0, 1},
		{least, 1, week, 0, 1},
		// A week, and more, of one and of both.
		{week - 1, 0, 5 * week, 4, 5},
		{week, 0, 5 * week, 4, 6},
		{0, week, 5 * week, 4, 6},
		{week + 1, 0, 5 * week, 4, 6},
		{0, week + 1, 5 * week, 4, 6},
		{greatest, 0, 5 * week, 4, 6},
		{0, greatest, 5 * week, 4, 6},
		{greatest, least, 5 * week, 4, 6},
		{week, 0, 6*week - 1, 4, 6},
		{week + 1, 0, 6*week - 1, 4, 6},
		{week + 1, 0, 5*week + 1, 4, 6},
		{week, week, 5 * week, 3, 7},
		{week, week + 1, 5*week + 1, 3, 7},
		{week + 1, week, 6*week - 1, 3, 7},
		{greatest, greatest, 5 * week, 3, 7},
		{greatest, greatest, 0, 0, 2},
		{greatest, greatest, week - 1, 0, 2},
		{greatest, greatest, -1, 0, 2},
		{greatest, greatest, least, 0, 2},
		{greatest, greatest, end - 1, 50, 52},
		{greatest, greatest, end, 50, 52},
		{greatest, greatest, end + week, 50, 52},
		{greatest, greatest, greatest, 50, 52},
		{0, week, end - 1, 51, 52},
		{0, week, end, 51, 52},
		{0, week, end + 1, 51, 52},
		{week, 0, 0, 0, 1},
		{week, 0, -1, 0, 1},
		{week, 0, -week, 0, 1},
	} {
		if a, b := Touch(with(c.unit, c.cap), c.t); a != c.first || b != c.last {
			t.Errorf("Touch of %d, %d at %d = %d, %d, want %d, %d", c.unit, c.cap, c.t, a, b, c.first, c.last)
		}
	}
}

// P11.2: all edges of Unit, Cap and the time with each other, at all ends of weeks that these reach to.
func TestTouchExact(t *testing.T) {
	sizes := []int{least, -week, -1, 0, 1, 60, 900, 3600, 57600, day, week - 1, week, week + 1, 2 * week, end, 1 << 62, greatest}
	for _, unit := range sizes {
		for _, cap := range sizes {
			far := taken(unit, week) + taken(cap, week)
			s := with(unit, cap)
			for _, at := range append(times(), about(far, week-far, week+far, 26*week-far, 26*week+far, end-far, end+far)...) {
				a, b := Touch(s, at)
				if first, last := touched(s, at); a != first || b != last {
					t.Fatalf("Touch of %d, %d at %d = %d, %d, want %d, %d", unit, cap, at, a, b, first, last)
				}
			}
		}
	}
}

// P11.2: of a setup only Unit and Cap tell, and it need not be one that may be.
func TestTouchSetup(t *testing.T) {
	s := api.Setup{Places: 3, Ways: []api.Way{{A: 0, B: 2, Meters: 300}}, Pace: api.Ratio{Num: 1, Den: 2}, Allow: 7, Unit: 900, Cap: 36000,
		PaidBreak: 1200, AutoAfter: 21600, AutoBreak: 1800, DayReg: 28800, DayOver: 43200, WeekReg: 144000, NightFrom: 79200, NightTo: 21600,
		Rates: []int{1500}, Diff: 75, Least: 725, Fault: 60, Tiers: []api.Tier{{Least: 100, Bonus: 150}}}
	for _, at := range append(times(), about(week-36900, week+36900)...) {
		a, b := Touch(s, at)
		if first, last := Touch(with(900, 36000), at); a != first || b != last {
			t.Errorf("%d: %d, %d, want %d, %d", at, a, b, first, last)
		}
	}
}

// P11.3: spans that touch, overlap, are empty, stand in any order, and reach over several days and weeks, and beyond both ends.
func TestParts(t *testing.T) {
	for _, c := range []struct {
		name string
		l    []api.Span
		days []int
	}{
		{"none", nil, nil},
		{"empty list", []api.Span{}, nil},
		{"without seconds", of(50, 50, 90, 40, 86400, 86400, end, end, greatest, least), nil},
		{"one second", of(7, 8), []int{0}},
		{"the first second of a day", of(86400, 86401), []int{1}},
		{"the last second of a day", of(86399, 86400), []int{0}},
		{"both seconds about the end of a day", of(86399, 86401), []int{0, 1}},
		{"one day", of(86400, 172800), []int{1}},
		{"one day, and a second ahead", of(86399, 172800), []int{0, 1}},
		{"one day, and a second behind", of(86400, 172801), []int{1, 2}},
		{"two in one day", of(10, 20, 30, 40), []int{0}},
		{"two in one day, the later one ahead", of(30, 40, 10, 20), []int{0}},
		{"many in one day, and in the next one", of(10, 20, 86500, 86600, 30, 40, 86450, 86460, 86399, 86400), []int{0, 1}},
		{"touching", of(10, 20, 20, 30), []int{0}},
		{"touching at the end of a day", of(86400, 86500, 86300, 86400), []int{0, 1}},
		{"overlapping over the end of a day", of(86300, 86420, 86380, 86500), []int{0, 1}},
		{"one within another one", of(10, 200000, 100000, 100001), []int{0, 1, 2}},
		{"the same twice", of(86300, 86500, 86300, 86500), []int{0, 1}},
		{"over the end of a week", of(604700, 700000), []int{6, 7, 8}},
		{"the end of a week", of(604799, 604800), []int{6}},
		{"the beginning of a week", of(604800, 604801), []int{7}},
		{"over weeks", of(600000, 3*604800+1), []int{6, 7, 8, 9, 10, 11, 12, 13, 14, 15, 16, 17, 18, 19, 20, 21}},
		{"days that are far apart, in no order", of(end-5, end, 200*86400, 200*86400+1, 3, 5, 20*86400-1, 20*86400+1), []int{0, 19, 20, 200, 370}},
		{"from below 0", of(-100000, 5), []int{0}},
		{"below 0 alone", of(-100000, 0, -5, -3, least, -1), nil},
		{"beyond the end", of(end-1, end+5), []int{370}},
		{"beyond the end, over the last day", of(end-day-1, greatest), []int{369, 370}},
		{"above the end alone", of(end, end+5, end+day, greatest), nil},
		{"a hole of a day", of(0, 86400, 172800, 259200), []int{0, 2}},
		{"a hole of less than a day", of(0, 86401, 172799, 259200), []int{0, 1, 2}},
	} {
		if got := Days(c.l); !slices.Equal(got, c.days) {
			t.Errorf("%s: Days(%v) = %v, want %v", c.name, c.l, got, c.days)
		}
		checkParts(t, c.name, c.l)
	}
}

// P11.3: days and weeks of sets whose spans are told one by one.
func TestKnownParts(t *testing.T) {
	l := of(604700, 700000, 90000, 90010, 86400, 86401, 50, 40, 90005, 90020, 700000, 700005, -9, 3)
	for _, c := range []struct {
		name      string
		got, want []api.Span
	}{
		{"day 0", OfDay(l, 0), of(0, 3)},
		{"day 1", OfDay(l, 1), of(86400, 86401, 90000, 90020)},
		{"day 2", OfDay(l, 2), nil},
		{"day 6", OfDay(l, 6), of(604700, 604800)},
		{"day 7", OfDay(l, 7), of(604800, 691200)},
		{"day 8", OfDay(l, 8), of(691200, 700005)},
		{"day 9", OfDay(l, 9), nil},
		{"week 0", OfWeek(l, 0), of(0, 3, 86400, 86401, 90000, 90020, 604700, 604800)},
		{"week 1", OfWeek(l, 1), of(604800, 700005)},
		{"week 2", OfWeek(l, 2), nil},
	} {
		if !slices.Equal(c.got, c.want) {
			t.Errorf("%s: %v, want %v", c.name, c.got, c.want)
		}
	}
	if d := Days(l); !slices.Equal(d, []int{0, 1, 6, 7, 8}) {
		t.Errorf("%v", d)
	}
}

// P11.3: of all seconds each day is a whole one, and so is each week; none are below 0, or behind the last, at whatever numbers.
func TestWhole(t *testing.T) {
	all := of(least, greatest)
	var days []int
	for n := range 371 {
		days = append(days, n)
		if got := OfDay(all, n); !slices.Equal(got, of(n*day, n*day+day)) {
			t.Errorf("day %d: %v", n, got)
		}
	}
	for n := range 53 {
		if got := OfWeek(all, n); !slices.Equal(got, of(n*week, n*week+week)) {
			t.Errorf("week %d: %v", n, got)
		}
	}
	if got := Days(all); !slices.Equal(got, days) {
		t.Errorf("%v", got)
	}
	// Among them are numbers whose product with Day, or with Week, wraps round to a second that there is.
	outside := about(-52, -370, -371, 372, 1000, 1<<55, 1<<56, 1<<57, 1<<58, 1<<59, 1<<60, 1<<61, 1<<63/day, 1<<63/week)
	for wraps := range 40 {
		round := new(big.Int).Lsh(big.NewInt(int64(wraps)), 64)
		for _, size := range []int64{day, week} {
			n := new(big.Int).Div(round, big.NewInt(size))
			if n.IsInt64() {
				outside = append(outside, int(n.Int64()), int(n.Int64())+1, -int(n.Int64()), -int(n.Int64())-1)
			}
		}
	}
	for _, n := range outside {
		if got := OfDay(all, n); (n < 0 || n > 370) && len(got) > 0 {
			t.Errorf("day %d: %v", n, got)
		}
		if got := OfWeek(all, n); (n < 0 || n > 52) && len(got) > 0 {
			t.Errorf("week %d: %v", n, got)
		}
	}
}

// P11.3: one span with all edges as its bounds, and two of them together.
func TestPartsEdges(t *testing.T) {
	var wide []api.Span
	for _, from := range []int{least, -day, -1, 0, 1, day - 1, day, week - 1, week, end - day, end - 1, end, end + 1, greatest} {
		for _, to := range []int{least, 0, 1, day - 1, day, day + 1, week, week + 1, end - day, end - 1, end, end + day, greatest} {
			wide = append(wide, api.Span{From: from, To: to})
		}
	}
	for i, s := range wide {
		checkParts(t, "one", []api.Span{s})
		checkParts(t, "two", []api.Span{s, wide[(i*7+3)%len(wide)]})
	}
}

// P11.3: lists of several spans.
func TestPartsSome(t *testing.T) {
	r := rand.New(rand.NewSource(111))
	for i := range 3000 {
		checkParts(t, strconv.Itoa(i), some(r))
	}
}

// P11.3, R4: a set has the same days and weeks, however it is told: in another order, in pieces, with nothing beside it.
func TestSameSet(t *testing.T) {
	r := rand.New(rand.NewSource(112))
	for range 2000 {
		l := some(r)
		other := append(of(9, 9, 7, 3, -5, 0), l...)
		for _, s := range span.Norm(l...) {
			at := s.From + r.Intn(s.To-s.From)
			other = append(other, of(at, s.To, s.From, at)...)
		}
		r.Shuffle(len(other), func(i, j int) { other[i], other[j] = other[j], other[i] })
		other = slices.Clip(other)
		if a, b := Days(l), Days(other); !slices.Equal(a, b) {
			t.Fatalf("%v, %v: %v, %v", l, other, a, b)
		}
		for _, n := range []int{0, 1, 2, 3, 6, 7, 8, 140, 369, 370} {
			if a, b := OfDay(l, n), OfDay(other, n); !slices.Equal(a, b) {
				t.Fatalf("day %d: %v, %v: %v, %v", n, l, other, a, b)
			}
			if a, b := OfWeek(l, n/7), OfWeek(other, n/7); !slices.Equal(a, b) {
				t.Fatalf("week %d: %v, %v: %v, %v", n/7, l, other, a, b)
			}
		}
	}
}

// P11.4: rounding keeps order, and moves nothing farther than half a unit; what it makes is a multiple, or the end of all time.
func TestRoundFollows(t *testing.T) {
	r := rand.New(rand.NewSource(113))
	check := func(unit, from, to int) {
		t.Helper()
		last := Round(from, unit)
		for at := from; at <= to; at++ {
			n := Round(at, unit)
			if n < last {
				t.Fatalf("Round(%d, %d) = %d, behind %d", at, unit, n, last)
			}
			if moved := max(n-at, at-n); moved > unit/2 {
				t.Fatalf("Round(%d, %d) = %d", at, unit, n)
			}
			if n%unit != 0 && n != end || n < 0 || n > end {
				t.Fatalf("Round(%d, %d) = %d, no multiple", at, unit, n)
			}
			last = n
		}
	}
	for unit := 1; unit <= 40; unit++ {
		check(unit, 0, 400)
		check(unit, end-200, end)
	}
	for _, unit := range []int{59, 60, 899, 900, 1000, 3590, 3599, 3600} {
		check(unit, 0, 4*unit)
		check(unit, end-2*unit, end)
	}
	for range 200000 {
		unit := 1 + r.Intn([]int{100, 3600, week, 2 * end}[r.Intn(4)])
		a, b := r.Intn(end+1), r.Intn(end+1)
		if r.Intn(2) == 0 {
			b = min(end, a+r.Intn(unit))
		}
		if x, y := Round(min(a, b), unit), Round(max(a, b), unit); x > y {
			t.Fatalf("by %d: %d at %d, %d at %d", unit, x, min(a, b), y, max(a, b))
		}
		check(unit, a, a)
	}
	for _, unit := range units() {
		last := 0
		for _, at := range times() {
			n := Round(at, unit)
			if n < last {
				t.Fatalf("Round(%d, %d) = %d, behind %d", at, unit, n, last)
			}
			last = n
		}
	}
}

// P11.4: what was rounded stays, by the same unit.
func TestRoundAgain(t *testing.T) {
	r := rand.New(rand.NewSource(114))
	for range 50000 {
		unit, at := 1+r.Intn(3600), r.Intn(end-3600)
		if n := Round(at, unit); Round(n, unit) != n {
			t.Fatalf("Round(%d, %d) = %d, and then %d", at, unit, n, Round(n, unit))
		}
	}
}

// P11.4: seven days make a week: of times, and of sets, each second once.
func TestDaysMakeWeeks(t *testing.T) {
	for _, at := range times() {
		if Week(at) != Day(at)/7 {
			t.Errorf("%d: day %d, week %d", at, Day(at), Week(at))
		}
	}
	r := rand.New(rand.NewSource(115))
	for range 200 {
		l := some(r)
		days := Days(l)
		var all []api.Span
		for w := range 53 {
			var made []api.Span
			size := 0
			for d := 7 * w; d < 7*w+7; d++ {
				part := OfDay(l, d)
				if (len(part) > 0) != slices.Contains(days, d) {
					t.Fatalf("%v: day %d is %v, and Days are %v", l, d, part, days)
				}
				made, size = append(made, part...), size+span.Size(part)
			}
			got := OfWeek(l, w)
			if !slices.Equal(span.Norm(made...), got) || span.Size(got) != size {
				t.Fatalf("%v: week %d is %v, and its days %v", l, w, got, made)
			}
			all = append(all, got...)
		}
		if !slices.Equal(span.Norm(all...), span.Norm(l...)) {
			t.Fatalf("%v: all weeks are %v", l, all)
		}
	}
}

// P11.4: the seconds of a day, and of a week, are those that Day, and Week, tell that of.
func TestSecondsOf(t *testing.T) {
	r := rand.New(rand.NewSource(116))
	for range 2000 {
		l := some(r)
		for _, s := range span.Norm(l...) {
			at := s.From + r.Intn(s.To-s.From)
			if !span.Has(OfDay(l, Day(at)), at) || !span.Has(OfWeek(l, Week(at)), at) || !slices.Contains(Days(l), Day(at)) {
				t.Fatalf("%v: %d is of day %d", l, at, Day(at))
			}
			if span.Has(OfDay(l, Day(at)+1), at) || span.Has(OfDay(l, Day(at)-1), at) || span.Has(OfWeek(l, Week(at)+1), at) || span.Has(OfWeek(l, Week(at)-1), at) {
				t.Fatalf("%v: %d is of another day than %d", l, at, Day(at))
			}
		}
	}
}

// P11.4: at most two weeks are touched, if the setup may be, and the time's own is one of them; what reaches farther touches no less.
func TestTouchFollows(t *testing.T) {
	for _, unit := range []int{1, 2, 900, 3599, 3600} {
		for _, cap := range []int{60, 61, 36000, 57599, 57600} {
			s := with(unit, cap)
			for n := range 54 {
				for _, at := range []int{n * week, n*week - 1, n*week - unit - cap, n*week + unit + cap, n*week + unit + cap - 1, n*week + week/2} {
					first, last := Touch(s, at)
					if first > last || last-first > 1 || Week(at) < first || Week(at) > last || first < 0 || last > 52 {
						t.Fatalf("Touch of %d, %d at %d = %d, %d", unit, cap, at, first, last)
					}
					a, b := Touch(with(unit+1, cap+1), at)
					if a > first || b < last {
						t.Fatalf("Touch of %d, %d at %d = %d, %d, and of more %d, %d", unit, cap, at, first, last, a, b)
					}
				}
			}
		}
	}
}

// R1: numbers of all kinds, hand-made spans and setups: each call ends, and tells times, days and weeks that there are.
func TestHandMade(t *testing.T) {
	r := rand.New(rand.NewSource(117))
	wild := func() int {
		return []int{0, 1, -1, day, week, end, end - 1, end + 1, least, greatest, 1 << 62, -1 << 62, r.Intn(end), r.Int(), -r.Int()}[r.Intn(15)]
	}
	for range 20000 {
		at, unit, s := wild(), wild(), with(wild(), wild())
		if n := Round(at, unit); n != rounded(at, unit) {
			t.Fatalf("Round(%d, %d) = %d", at, unit, n)
		}
		if d, w := Day(at), Week(at); d != numberOf(at, day) || w != numberOf(at, week) {
			t.Fatalf("%d: %d, %d", at, d, w)
		}
		first, last := Touch(s, at)
		if a, b := touched(s, at); first != a || last != b {
			t.Fatalf("Touch of %d, %d at %d = %d, %d", s.Unit, s.Cap, at, first, last)
		}
		l := of(wild(), wild(), wild(), wild(), wild(), wild())[:r.Intn(4)]
		n := wild()
		if got := OfDay(l, n); !slices.Equal(got, parted(l, n, day)) {
			t.Fatalf("OfDay(%v, %d) = %v", l, n, got)
		}
		if got := OfWeek(l, n); !slices.Equal(got, parted(l, n, week)) {
			t.Fatalf("OfWeek(%v, %d) = %v", l, n, got)
		}
		if got := Days(l); !slices.Equal(got, dayed(l)) {
			t.Fatalf("Days(%v) = %v", l, got)
		}
	}
}

// roomy is the spans with spare room behind them, in which there stands what would change the answers; and all of that memory.
func roomy(l []api.Span) (list, all []api.Span) {
	all = append(slices.Clone(l), of(0, end, 3*day, 3*day+9, -7, 7, 9, 2, least, greatest)...)
	return all[:len(l)], all
}

// R3: what is handed in is neither changed nor kept, its spare room included; answers are in memory of their own.
func TestMemory(t *testing.T) {
	for _, list := range [][]api.Span{nil, of(3, 5), of(0, 86400), of(3, 86500, 90000, 90007, 700000, 700001), of(90000, 90007, 3, 86500, 8, 8, 50, 1, -5, 4, end-1, greatest)} {
		l, all := roomy(list)
		for _, call := range []func() []api.Span{
			func() []api.Span { return OfDay(l, 0) },
			func() []api.Span { return OfDay(l, 1) },
			func() []api.Span { return OfDay(l, 371) },
			func() []api.Span { return OfWeek(l, 0) },
			func() []api.Span { return OfWeek(l, 52) },
			func() []api.Span { return OfWeek(l, -1) },
		} {
			own(t, all, call, api.Span{From: -99, To: 99})
		}
		own(t, all, func() []int { return Days(l) }, -99)
		checkParts(t, "roomy", l)
	}
}

// own holds a call against its answers being in memory of their own, apart from one another's, and from all that was handed in.
func own[T comparable](t *testing.T, all []api.Span, call func() []T, other T) {
	t.Helper()
	was := slices.Clone(all)
	one, two := call(), call()
	want := slices.Clone(two)
	// Whoever has an answer may change it, and all room behind it.
	for i := range one[:cap(one)] {
		one[:cap(one)][i] = other
	}
	if !slices.Equal(two, want) {
		t.Errorf("%v: two answers share memory: %v", was, two)
	}
	if !slices.Equal(all, was) {
		t.Errorf("%v: what was handed in was changed: %v", was, all)
	}
	// And whoever handed a list in may change it.
	for i := range all {
		all[i] = api.Span{From: 3, To: 4}
	}
	if !slices.Equal(two, want) {
		t.Errorf("%v: what was handed in is kept: %v", was, two)
	}
	copy(all, was)
	if !slices.Equal(call(), want) {
		t.Errorf("%v: asked again: %v, want %v", was, call(), want)
	}
}

// R3: a setup that is handed in stays as it was.
func TestSetupStays(t *testing.T) {
	rates := []int{1500, 7, 9}
	s := with(greatest, -3)
	s.Rates = rates[:1]
	Touch(s, week)
	if s.Unit != greatest || s.Cap != -3 || !slices.Equal(rates, []int{1500, 7, 9}) {
		t.Errorf("%v, %v", s, rates)
	}
}

// P11.3: as many spans as a long list may have, in a time that does not rise with its square.
func TestMany(t *testing.T) {
	const many = 200000
	var l []api.Span
	for i := many - 1; i >= 0; i-- {
		l = append(l, of(4*i, 4*i+3)...)
	}
	if got := OfDay(l, 1); len(got) != day/4 || !isPlain(got) {
		t.Errorf("%d spans", len(got))
	}
	if got := OfWeek(l, 1); len(got) != many-week/4 || !isPlain(got) {
		t.Errorf("%d spans", len(got))
	}
	if got := Days(l); !slices.Equal(got, []int{0, 1, 2, 3, 4, 5, 6, 7, 8, 9}) {
		t.Errorf("%v", got)
	}
}
