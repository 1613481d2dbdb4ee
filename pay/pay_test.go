package pay

import (
	"math"
	"math/big"
	"math/rand"
	"slices"
	"testing"

	"lumper/api"
	"lumper/setup"
)

const (
	// week, cats and most, the greatest rate, are as the document says them.
	week = 604800
	cats = 7
	most = 100000

	least    = math.MinInt
	greatest = math.MaxInt
)

// seconds are those of each category, and none are no seconds.
type seconds [cats]int

var none seconds

// only are seconds of one category, and each are as many of all.
func only(cat, n int) seconds {
	var secs seconds
	secs[cat] = n
	return secs
}
func each(n int) seconds { return seconds{n, n, n, n, n, n, n} }

// money are the numbers of a setup that tell what seconds make; of bonuses each is that of a tier.
type money struct {
	rates       []int
	diff, least int
	bonuses     []int
}

// setup is a setup, that may be if its money may.
func (m money) setup() api.Setup {
	s := api.Setup{Places: 1, Pace: api.Ratio{Num: 1, Den: 1}, Unit: 1, Cap: 60, Rates: m.rates, Diff: m.diff, Least: m.least}
	for i, n := range m.bonuses {
		s.Tiers = append(s.Tiers, api.Tier{Least: i + 1, Bonus: n})
	}
	return s
}

// rate is money of one worker, and plan of three.
func rate(n int) money { return money{rates: []int{n}} }
func plan() money {
	return money{rates: []int{1500, 7, 0}, diff: 75, least: 725, bonuses: []int{150, 1, 0}}
}

// by, atLeast and tiers are the same money, with more by night, with a least, and with bonuses.
func (m money) by(diff int) money {
	m.diff = diff
	return m
}
func (m money) atLeast(n int) money {
	m.least = n
	return m
}
func (m money) tiers(bonuses ...int) money {
	m.bonuses = bonuses
	return m
}

// full is a setup with some of everything, whose money is plan's.
func full() api.Setup {
	s, third := plan().setup(), api.Ratio{Num: 1, Den: 3}
	s.Places, s.Ways, s.Pace, s.Elements = 3, []api.Way{{A: 0, B: 2, Meters: 300}}, third, []api.Element{{Fixed: third, Unit: third}}
	s.Classes, s.Gears, s.Allow, s.Unit, s.Cap = []api.Ratio{third, third}, []api.Ratio{third}, 7, 900, 36000
	s.PaidBreak, s.AutoAfter, s.AutoBreak, s.DayReg, s.DayOver, s.WeekReg = 600, 21600, 1800, 28800, 43200, 144000
	s.NightFrom, s.NightTo, s.Fault = 79200, 21600, 60
	return s
}

// answer is what Of tells.
type answer struct {
	cents                seconds
	bonus, makeup, gross int
	e                    api.Errno
}

// wrong is an answer with an error, and makes is one of cents, without bonus and makeup.
func wrong(e api.Errno) answer { return answer{e: e} }
func makes(cents seconds) answer {
	a := answer{cents: cents}
	for _, n := range cents {
		a.gross += n
	}
	return a
}

// and is the answer, with a bonus, and with what is made up.
func (a answer) and(bonus, makeup int) answer {
	a.bonus, a.makeup, a.gross = bonus, makeup, a.gross+bonus+makeup
	return a
}

// told is what Of tells.
func told(s api.Setup, worker int, secs seconds, eligible, tier int) answer {
	var a answer
	a.cents, a.bonus, a.makeup, a.gross, a.e = Of(s, worker, secs, eligible, tier)
	return a
}

// counted is what the document says of numbers of seconds.
func counted(n int) int64 {
	if n < 0 {
		return 0
	}
	if n > week {
		return week
	}
	return int64(n)
}

// hours is what so many seconds make at so many cents an hour, exactly.
func hours(n int64, cents *big.Rat) *big.Rat {
	return new(big.Rat).Mul(big.NewRat(n, 3600), cents)
}

// below is the greatest number that is not above x, and rest is how much is left.
func below(x *big.Rat) (n int, rest *big.Rat) {
	down := new(big.Int).Div(x.Num(), x.Denom())
	return int(down.Int64()), new(big.Rat).Sub(x, new(big.Rat).SetInt(down))
}

// near is the number that is nearest, of two that are as near the greater one, and up is the least one that is not below x.
func near(x *big.Rat) int {
	n, rest := below(x)
	if rest.Cmp(big.NewRat(1, 2)) >= 0 {
		n++
	}
	return n
}
func up(x *big.Rat) int {
	n, rest := below(x)
	if rest.Sign() > 0 {
		n++
	}
	return n
}

// anHour is what the document says of an hour's cents.
func anHour(s api.Setup, worker, cat int) *big.Rat {
	r := int64(s.Rates[worker])
	cents := map[int]*big.Rat{1: big.NewRat(r, 1), 2: big.NewRat(3*r, 2), 3: big.NewRat(2*r, 1)}
	if cat > 3 {
		return new(big.Rat).Add(cents[cat-3], big.NewRat(int64(s.Diff), 1))
	}
	return cents[cat]
}

// said is what the document says of Of, of a setup that may be.
func said(s api.Setup, worker int, secs seconds, eligible, tier int) answer {
	if worker < 0 || worker >= len(s.Rates) {
		return wrong(80)
	}
	var a answer
	paid := int64(0)
	for cat := 1; cat < cats; cat++ {
		paid += counted(secs[cat])
		a.cents[cat] = near(hours(counted(secs[cat]), anHour(s, worker, cat)))
		a.gross += a.cents[cat]
	}
	for i, t := range s.Tiers {
		if i == tier {
			a.bonus = near(hours(counted(eligible), big.NewRat(int64(t.Bonus), 1)))
		}
	}
	a.gross += a.bonus
	if more := up(hours(paid, big.NewRat(int64(s.Least), 1))) - a.gross; more > 0 {
		a.makeup = more
		a.gross += more
	}
	return a
}

// held holds Of against the document's words.
func held(t *testing.T, name string, s api.Setup, worker int, secs seconds, eligible, tier int) answer {
	t.Helper()
	got, want := told(s, worker, secs, eligible, tier), said(s, worker, secs, eligible, tier)
	if got != want {
		t.Fatalf("%s: Of(%v, %d, %d, %v; %d, %v, %d, %d) = %v, want %v", name, s.Rates, s.Diff, s.Least, s.Tiers, worker, secs, eligible, tier, got, want)
	}
	return got
}

// is holds Of against an answer, and the document's words too.
func is(t *testing.T, name string, m money, worker int, secs seconds, eligible, tier int, want answer) {
	t.Helper()
	if got := told(m.setup(), worker, secs, eligible, tier); got != want {
		t.Errorf("%s: Of(%v; %d, %v, %d, %d) = %v, want %v", name, m, worker, secs, eligible, tier, got, want)
		return
	}
	held(t, name, m.setup(), worker, secs, eligible, tier)
}

// P19.1: the chapter's example.
func TestExample(t *testing.T) {
	is(t, "example", rate(1500).by(75), 0, seconds{0, 3600, 0, 0, 0, 1800, 0}, 0, -1, makes(seconds{0, 1500, 0, 0, 0, 1163, 0}))
}

// P19.1: ordinary weeks, of no seconds, of one category, and of several.
func TestWeeks(t *testing.T) {
	ordinary := seconds{9000, 144000, 14400, 3600, 7200, 0, 0}
	for _, c := range []struct {
		name           string
		worker         int
		secs           seconds
		eligible, tier int
		want           answer
	}{
		{"no seconds", 0, none, 0, -1, makes(none)},
		{"no seconds, of a tier", 0, none, 0, 0, makes(none)},
		{"no seconds, of another worker", 1, none, 0, 1, makes(none)},
		{"unpaid", 0, only(0, 3600), 0, -1, makes(none)},
		{"unpaid, at the lowest rate", 2, only(0, 3600), 0, -1, makes(none)},
		{"unpaid, a whole week", 1, only(0, week), 0, -1, makes(none)},
		{"regular", 0, only(1, 3600), 0, -1, makes(only(1, 1500))},
		{"overtime", 0, only(2, 3600), 0, -1, makes(only(2, 2250))},
		{"double", 0, only(3, 3600), 0, -1, makes(only(3, 3000))},
		{"regular, by night", 0, only(4, 3600), 0, -1, makes(only(4, 1575))},
		{"overtime, by night", 0, only(5, 3600), 0, -1, makes(only(5, 2325))},
		{"double, by night", 0, only(6, 3600), 0, -1, makes(only(6, 3075))},
		{"regular, at a low rate", 1, only(1, 3600), 0, -1, makes(only(1, 7)).and(0, 718)},
		{"overtime, at a low rate", 1, only(2, 3600), 0, -1, makes(only(2, 11)).and(0, 714)},
		{"double, at a low rate", 1, only(3, 3600), 0, -1, makes(only(3, 14)).and(0, 711)},
		{"regular, by night, at a low rate", 1, only(4, 3600), 0, -1, makes(only(4, 82)).and(0, 643)},
		{"overtime, by night, at a low rate", 1, only(5, 3600), 0, -1, makes(only(5, 86)).and(0, 639)},
		{"double, by night, at a low rate", 1, only(6, 3600), 0, -1, makes(only(6, 89)).and(0, 636)},
		{"regular, at no rate", 2, only(1, 3600), 0, -1, makes(none).and(0, 725)},
		{"overtime, at no rate", 2, only(2, 3600), 0, -1, makes(none).and(0, 725)},
		{"double, at no rate", 2, only(3, 3600), 0, -1, makes(none).and(0, 725)},
		{"regular, by night, at no rate", 2, only(4, 3600), 0, -1, makes(only(4, 75)).and(0, 650)},
		{"overtime, by night, at no rate", 2, only(5, 3600), 0, -1, makes(only(5, 75)).and(0, 650)},
		{"double, by night, at no rate", 2, only(6, 3600), 0, -1, makes(only(6, 75)).and(0, 650)},
		{"all", 0, each(3600), 0, -1, makes(seconds{0, 1500, 2250, 3000, 1575, 2325, 3075})},
		{"all, at a low rate", 1, each(3600), 0, -1, makes(seconds{0, 7, 11, 14, 82, 86, 89}).and(0, 4061)},
		{"all, each of another size", 0, seconds{7200, 3600, 7200, 10800, 14400, 18000, 21600}, 0, -1, makes(seconds{0, 1500, 4500, 9000, 6300, 11625, 18450})},
		{"an ordinary week", 0, ordinary, 0, -1, makes(seconds{0, 60000, 9000, 3000, 3150, 0, 0})},
		{"an ordinary week, with a bonus", 0, ordinary, 90000, 0, makes(seconds{0, 60000, 9000, 3000, 3150, 0, 0}).and(3750, 0)},
		{"an ordinary week, at a low rate", 1, ordinary, 90000, 0, makes(seconds{0, 280, 42, 14, 164, 0, 0}).and(3750, 29825)},
		{"a bonus alone", 0, none, 3600, 0, makes(none).and(150, 0)},
		{"unpaid, and a bonus", 2, only(0, 3600), 3600, 0, makes(none).and(150, 0)},
	} {
		is(t, c.name, plan(), c.worker, c.secs, c.eligible, c.tier, c.want)
	}
}

// P19.1: what numbers of seconds are taken for, in each category.
func TestSecondsTaken(t *testing.T) {
	// A second of each category makes so many halves of a cent.
	m, halves := rate(3600).by(3600), seconds{0, 2, 3, 4, 4, 5, 6}
	for cat := range cats {
		for _, n := range []int{-1, -2, -3600, -week, -week - 1, least, least + 1, -1 << 32, -1<<32 + 3600, 0} {
			is(t, "below 0, or 0", m, 0, only(cat, n), 0, -1, makes(none))
			is(t, "below 0, or 0, with a least", m.atLeast(most), 0, only(cat, n), 0, -1, makes(none))
		}
		for _, n := range []int{1, 2, 3, 3600, week - 2, week - 1, week} {
			is(t, "as many as there are", m, 0, only(cat, n), 0, -1, makes(only(cat, (n*halves[cat]+1)/2)))
		}
		for _, n := range []int{week + 1, week + 2, week + 3600, 2 * week, 1 << 31, 1 << 32, 1<<32 + 1, 1 << 62, 1<<63 - 3600, greatest, greatest - 1} {
			is(t, "more than a week", m, 0, only(cat, n), 0, -1, makes(only(cat, week/2*halves[cat])))
		}
	}
	ofWeek := seconds{0, 168, 252, 336, 336, 420, 504}
	m = rate(1).by(1)
	is(t, "all below 0", m.atLeast(most), 0, each(least), 0, -1, makes(none))
	is(t, "some below 0", m, 0, seconds{-1, 7200, -7200, least, 7200, -3600, -1}, 0, -1, makes(seconds{0, 2, 0, 0, 4, 0, 0}))
	is(t, "below 0 takes nothing from what is made up", m.atLeast(10), 0, seconds{-3600, 3600, -3600, least, 3600, least, -1}, 0, -1, makes(seconds{0, 1, 0, 0, 2, 0, 0}).and(0, 17))
	is(t, "all above a week", m, 0, each(greatest), 0, -1, makes(ofWeek))
	is(t, "just a week of each", m, 0, each(week), 0, -1, makes(ofWeek))
	// Each category's seconds are taken for a week's, and not all together.
	is(t, "above a week, made up", rate(0).atLeast(3600), 0, each(week+1), 0, -1, makes(none).and(0, 6*week))
	is(t, "a week of one, made up", rate(0).atLeast(3600), 0, only(3, greatest), 0, -1, makes(none).and(0, week))
	is(t, "two weeks, made up", rate(0).atLeast(3600), 0, seconds{week, 0, week, 0, 0, 0, week + 7}, 0, -1, makes(none).and(0, 2*week))
	is(t, "a second short of two weeks, made up", rate(0).atLeast(3600), 0, seconds{week, 0, week - 1, 0, 0, 0, week + 7}, 0, -1, makes(none).and(0, 2*week-1))
}

// P19.1: what eligible seconds are taken for.
func TestEligibleTaken(t *testing.T) {
	m := rate(0).tiers(1, 3600)
	for _, n := range []int{-1, -2, -3600, -week - 1, least, least + 1, -1<<32 + 7200, 0} {
		is(t, "below 0, or 0", m, 0, none, n, 1, makes(none))
	}
	for _, n := range []int{1, 2, 1799, 1800, 1801, 3600, week - 3600, week - 2, week - 1, week} {
		is(t, "as many as there are", m, 0, none, n, 1, makes(none).and(n, 0))
		is(t, "as many as there are, of a lower tier", m, 0, none, n, 0, makes(none).and((n+1800)/3600, 0))
	}
	for _, n := range []int{week + 1, week + 2, week + 3600, 2 * week, 1 << 32, 1 << 62, greatest, greatest - 1} {
		is(t, "more than a week", m, 0, none, n, 1, makes(none).and(week, 0))
		is(t, "more than a week, of a lower tier", m, 0, none, n, 0, makes(none).and(168, 0))
	}
	is(t, "more eligible than paid", m, 0, only(1, 60), 7200, 0, makes(none).and(2, 0))
	is(t, "less eligible than paid", m, 0, only(1, 7200), 3600, 0, makes(none).and(1, 0))
}

// P19.1: just at the middle between two cents the greater one is told, and one second below it the lesser one.
func TestMiddle(t *testing.T) {
	m := rate(1).by(1)
	for cat, n := range []int{0, 1800, 1200, 900, 900, 720, 600} {
		if cat == 0 {
			continue
		}
		for i := range 200 {
			at := n + 2*n*i
			if at >= week {
				break
			}
			is(t, "below the middle", m, 0, only(cat, at-1), 0, -1, makes(only(cat, i)))
			is(t, "at the middle", m, 0, only(cat, at), 0, -1, makes(only(cat, i+1)))
			is(t, "above the middle", m, 0, only(cat, at+1), 0, -1, makes(only(cat, i+1)))
			is(t, "ahead of a whole cent", m, 0, only(cat, at+n-1), 0, -1, makes(only(cat, i+1)))
			is(t, "a whole cent", m, 0, only(cat, at+n), 0, -1, makes(only(cat, i+1)))
		}
	}
	is(t, "at the middle, of all", m, 0, seconds{1800, 1800, 1200, 900, 900, 720, 600}, 1800, 0, makes(seconds{0, 1, 1, 1, 1, 1, 1}))
	is(t, "each to the nearest, ahead of adding", rate(1), 0, seconds{0, 1800, 0, 0, 1800, 0, 0}, 0, -1, makes(seconds{0, 1, 0, 0, 1, 0, 0}))
	is(t, "each to the nearest, and nothing left", rate(1), 0, seconds{0, 1799, 0, 0, 1799, 0, 0}, 0, -1, makes(none))
}

// P19.1: of each category there is no number that is nearer, and no greater one as near, whatever the rate and Diff.
func TestNearest(t *testing.T) {
	for _, r := range []int{0, 1, 2, 3, 5, 7, 10, 25, 99, 101, 999, 1500, 1501, 99999, most} {
		for _, diff := range []int{0, 1, 2, 75, 99999, most} {
			s := rate(r).by(diff).setup()
			// An hour's cents, in halves of a cent.
			an := seconds{0, 2 * r, 3 * r, 4 * r, 2*r + 2*diff, 3*r + 2*diff, 4*r + 2*diff}
			for n := 0; n < 7300; n++ {
				at := n
				if n >= 3700 {
					at = week - (n - 3700)
				}
				got := told(s, 0, each(at), 0, -1)
				for cat := range cats {
					if off := 7200*got.cents[cat] - at*an[cat]; off <= -3600 || off > 3600 {
						t.Fatalf("rate %d, Diff %d: %d seconds of %d: %d", r, diff, at, cat, got.cents[cat])
					}
				}
			}
		}
	}
}

// P19.1: an hour's cents of overtime where three halves of the rate are no whole number.
func TestHalves(t *testing.T) {
	for _, c := range [][5]int{ // the rate, and the cents of one hour, two, three, and half an hour
		{1, 2, 3, 5, 1}, {3, 5, 9, 14, 2}, {5, 8, 15, 23, 4}, {7, 11, 21, 32, 5}, {1501, 2252, 4503, 6755, 1126}, {99999, 149999, 299997, 449996, 74999},
		{2, 3, 6, 9, 2}, {4, 6, 12, 18, 3}, {1500, 2250, 4500, 6750, 1125}, {0, 0, 0, 0, 0},
	} {
		for i, n := range []int{3600, 7200, 10800, 1800} {
			is(t, "by day", rate(c[0]), 0, only(2, n), 0, -1, makes(only(2, c[i+1])))
			is(t, "by night, and no more", rate(c[0]), 0, only(5, n), 0, -1, makes(only(5, c[i+1])))
			is(t, "by night", rate(c[0]).by(10), 0, only(5, n), 0, -1, makes(only(5, c[i+1]+10*n/3600)))
		}
		is(t, "a whole week", rate(c[0]), 0, only(2, week), 0, -1, makes(only(2, c[0]*252)))
	}
}

// P19.1: by night there is as much, and Diff.
func TestNight(t *testing.T) {
	hour := each(3600)
	is(t, "Diff 0", rate(100), 0, hour, 0, -1, makes(seconds{0, 100, 150, 200, 100, 150, 200}))
	is(t, "Diff 1", rate(100).by(1), 0, hour, 0, -1, makes(seconds{0, 100, 150, 200, 101, 151, 201}))
	is(t, "Diff 75", rate(100).by(75), 0, hour, 0, -1, makes(seconds{0, 100, 150, 200, 175, 225, 275}))
	is(t, "Diff as the rate", rate(100).by(100), 0, hour, 0, -1, makes(seconds{0, 100, 150, 200, 200, 250, 300}))
	is(t, "Diff above the rate", rate(100).by(1000), 0, hour, 0, -1, makes(seconds{0, 100, 150, 200, 1100, 1150, 1200}))
	is(t, "Diff alone", rate(0).by(30), 0, hour, 0, -1, makes(seconds{0, 0, 0, 0, 30, 30, 30}))
	is(t, "the greatest Diff", rate(1).by(most), 0, hour, 0, -1, makes(seconds{0, 1, 2, 2, most + 1, most + 2, most + 2}))
	is(t, "half an hour, with Diff at the middle", rate(0).by(1), 0, each(1800), 0, -1, makes(seconds{0, 0, 0, 0, 1, 1, 1}))
	// 1.5 and 1.5 make 3, and not 2 and 2.
	is(t, "both parts at the middle", rate(3).by(3), 0, each(1800), 0, -1, makes(seconds{0, 2, 2, 3, 3, 4, 5}))
	is(t, "both parts below the middle", rate(1).by(1), 0, each(1000), 0, -1, makes(seconds{0, 0, 0, 1, 1, 1, 1}))
}

// P19.1: whole hours, as many as a week has.
func TestWholeHours(t *testing.T) {
	for n := range 169 {
		is(t, "whole hours", rate(20).by(3).tiers(7), 0, each(3600*n), 3600*n, 0, makes(seconds{0, 20 * n, 30 * n, 40 * n, 23 * n, 33 * n, 43 * n}).and(7*n, 0))
	}
}

// P19.1: the bonus is that of the tier's number, and there is none where there is no such tier.
func TestTiers(t *testing.T) {
	m := rate(0).tiers(150, 0, 40, most, 7)
	for tier, n := range []int{150, 0, 40, most, 7} {
		is(t, "an hour", m, 0, none, 3600, tier, makes(none).and(n, 0))
		is(t, "two hours", m, 0, none, 7200, tier, makes(none).and(2*n, 0))
		is(t, "half an hour", m, 0, none, 1800, tier, makes(none).and((n+1)/2, 0))
		is(t, "no seconds", m, 0, none, 0, tier, makes(none))
	}
	for _, tier := range []int{-1, -2, -5, 5, 6, 7, 8, least, least + 1, greatest, greatest - 1, 1 << 32, 1<<32 + 1, -1 << 32, 1 << 62} {
		is(t, "no such tier", m, 0, none, 3600, tier, makes(none))
		is(t, "no such tier, with seconds", plan(), 0, only(1, 3600), greatest, tier, makes(only(1, 1500)))
	}
	for _, tier := range []int{-1, 0, 1, least, greatest} {
		is(t, "no tiers", rate(100), 0, only(1, 3600), 3600, tier, makes(only(1, 100)))
	}
	eight := rate(0).tiers(8, 7, 6, 5, 4, 3, 2, 1)
	for tier := range 8 {
		is(t, "eight tiers", eight, 0, none, 3600, tier, makes(none).and(8-tier, 0))
	}
	is(t, "behind eight tiers", eight, 0, none, 3600, 8, makes(none))
	is(t, "one tier", rate(0).tiers(9), 0, none, 3600, 0, makes(none).and(9, 0))
	is(t, "behind one tier", rate(0).tiers(9), 0, none, 3600, 1, makes(none))
	s := rate(0).tiers(9, 9).setup()
	s.Tiers[0].Least, s.Tiers[1].Least = 500, 1000
	if got := told(s, 0, none, 3600, 0); got != makes(none).and(9, 0) {
		t.Errorf("what a tier asks for is asked: %v", got)
	}
}

// P19.1: the bonus is told to the nearest cent, of two as near the greater one.
func TestBonusMiddle(t *testing.T) {
	for _, c := range [][3]int{ // the bonus, eligible, and the cents
		{1, 1799, 0}, {1, 1800, 1}, {1, 1801, 1}, {1, 5399, 1}, {1, 5400, 2}, {1, 5401, 2}, {3, 599, 0}, {3, 600, 1}, {3, 601, 1}, {3, 1799, 1}, {3, 1800, 2}, {3, 1801, 2},
		{150, 11, 0}, {150, 12, 1}, {150, 13, 1}, {150, 35, 1}, {150, 36, 2}, {150, 37, 2}, {7, 257, 0}, {7, 258, 1}, {7, 1800, 4}, {7, 1799, 3}, {most, 1, 28}, {most, 2, 56}, {most, 9, 250},
	} {
		is(t, "a bonus", rate(0).tiers(c[0]), 0, none, c[1], 0, makes(none).and(c[2], 0))
	}
	for _, n := range []int{1, 2, 3, 7, 150, 1501, 99999, most} {
		s := rate(5).tiers(0, n).setup()
		for at := range 7300 {
			if got := told(s, 0, none, at, 1); 2*(3600*got.bonus-at*n) <= -3600 || 2*(3600*got.bonus-at*n) > 3600 || got.gross != got.bonus {
				t.Fatalf("%d seconds at %d: %v", at, n, got)
			}
		}
	}
}

// P19.1: what is made up is what all paid seconds make at Least, upwards to a cent, less all that there is.
func TestMakeup(t *testing.T) {
	cents := only(1, 7)
	for _, c := range [][2]int{{0, 0}, {1, 0}, {6, 0}, {7, 0}, {8, 1}, {9, 2}, {725, 718}, {most, most - 7}} {
		is(t, "an hour", rate(7).atLeast(c[0]), 0, only(1, 3600), 0, -1, makes(cents).and(0, c[1]))
	}
	for _, c := range [][3]int{ // Least, the seconds, and what is made up, where nothing is paid
		{0, week, 0}, {1, 0, 0}, {1, 1, 1}, {1, 2, 1}, {1, 1799, 1}, {1, 1800, 1}, {1, 3599, 1}, {1, 3600, 1}, {1, 3601, 2}, {1, 7199, 2}, {1, 7200, 2}, {1, 7201, 3},
		{2, 1, 1}, {2, 1800, 1}, {2, 1801, 2}, {7, 514, 1}, {7, 515, 2}, {3600, 1, 1}, {3600, 17, 17}, {3601, 1, 2}, {7200, 1, 2}, {most, 1, 28}, {most, 9, 250}, {most, 10, 278}, {most, week, 168 * most},
		{1, week - 1, 168}, {1, week - 3599, 168}, {1, week - 3600, 167}, {1, week - 3601, 167},
	} {
		for cat := 1; cat < cats; cat++ {
			is(t, "nothing paid", rate(0).atLeast(c[0]), 0, only(cat, c[1]), 0, -1, makes(none).and(0, c[2]))
		}
		is(t, "unpaid", rate(0).atLeast(c[0]), 0, only(0, c[1]), 0, -1, makes(none))
	}
	for _, c := range [][3]int{ // the seconds, what they make at 7 an hour, and what is made up at a Least of 7
		{1, 0, 1}, {257, 0, 1}, {258, 1, 0}, {514, 1, 0}, {515, 1, 1}, {771, 1, 1}, {772, 2, 0}, {1028, 2, 0}, {1029, 2, 1}, {1799, 3, 1}, {1800, 4, 0}, {3599, 7, 0}, {3600, 7, 0}, {3601, 7, 1},
	} {
		is(t, "upwards, of what is told to the nearest", rate(7).atLeast(7), 0, only(1, c[0]), 0, -1, makes(only(1, c[1])).and(0, c[2]))
	}
	is(t, "together, ahead of upwards", rate(0).atLeast(1), 0, each(1), 0, -1, makes(none).and(0, 1))
	is(t, "together, just a cent", rate(0).atLeast(1), 0, each(600), 0, -1, makes(none).and(0, 1))
	is(t, "together, a second more", rate(0).atLeast(1), 0, seconds{600, 600, 600, 601, 600, 600, 600}, 0, -1, makes(none).and(0, 2))
	is(t, "unpaid ones beside", rate(0).atLeast(1), 0, seconds{1, 600, 600, 600, 600, 600, 600}, 0, -1, makes(none).and(0, 1))
	is(t, "of all, and not of each", rate(100).atLeast(150), 0, seconds{0, 3600, 0, 3600, 0, 0, 0}, 0, -1, makes(seconds{0, 100, 0, 200, 0, 0, 0}))
	is(t, "of all, one cent more", rate(100).atLeast(151), 0, seconds{0, 3600, 0, 3600, 0, 0, 0}, 0, -1, makes(seconds{0, 100, 0, 200, 0, 0, 0}).and(0, 2))
	is(t, "all cents count", rate(100).by(10).atLeast(300), 0, each(3600), 0, -1, makes(seconds{0, 100, 150, 200, 110, 160, 210}).and(0, 870))
}

// P19.1: a bonus makes up for what is below Least.
func TestBonusMakesUp(t *testing.T) {
	for _, c := range [][3]int{{0, 93, 100}, {1, 92, 100}, {50, 43, 100}, {92, 1, 100}, {93, 0, 100}, {94, 0, 101}, {150, 0, 157}, {most, 0, most + 7}} {
		want := makes(only(1, 7)).and(c[0], c[1])
		if want.gross != c[2] {
			t.Errorf("%v", want)
		}
		is(t, "a bonus", rate(7).atLeast(100).tiers(c[0]), 0, only(1, 3600), 3600, 0, want)
	}
	is(t, "no such tier", rate(7).atLeast(100).tiers(50), 0, only(1, 3600), 3600, 1, makes(only(1, 7)).and(0, 93))
	is(t, "eligible seconds make no least", rate(7).atLeast(100).tiers(0), 0, none, 3600, 0, makes(none))
	is(t, "a bonus without paid seconds", rate(7).atLeast(100).tiers(5), 0, only(0, 3600), 3600, 0, makes(none).and(5, 0))
}

// P19.1: the greatest numbers, at once.
func TestGreatest(t *testing.T) {
	all := makes(seconds{0, 168 * most, 252 * most, 336 * most, 336 * most, 420 * most, 504 * most})
	m := rate(most).by(most).tiers(1, 2, 3, 4, 5, 6, 7, most)
	for _, n := range []int{week, week + 1, greatest} {
		is(t, "the greatest", m.atLeast(most), 0, each(n), n, 7, all.and(168*most, 0))
		is(t, "the greatest, without a least", m, 0, each(n), n, 7, all.and(168*most, 0))
		is(t, "the greatest, without a bonus", m.atLeast(most), 0, each(n), n, 8, all)
		is(t, "the greatest made up", rate(0).atLeast(most), 0, each(n), n, 7, makes(none).and(0, 1008*most))
		is(t, "the greatest made up, and a bonus", rate(0).atLeast(most).tiers(most), 0, each(n), n, 0, makes(none).and(168*most, 840*most))
	}
	if all.gross != 2016*most {
		t.Errorf("%v", all)
	}
}

// P19.1: a worker is one that there is a rate of, and its own rate alone counts.
func TestWorkers(t *testing.T) {
	m := money{rates: []int{3, 0, most, 12, 5}, least: 2, diff: 1}
	for worker, n := range m.rates {
		want := makes(only(3, 2*n))
		if n == 0 {
			want = want.and(0, 2)
		}
		is(t, "a worker", m, worker, only(3, 3600), 0, -1, want)
	}
	for _, worker := range []int{-1, -2, -5, 5, 6, 16, least, least + 1, greatest, greatest - 1, 1 << 32, 1<<32 + 1, -1 << 32, 1 << 62} {
		is(t, "no worker", m, worker, only(3, 3600), 3600, 0, wrong(80))
		is(t, "no worker, and no seconds", m, worker, none, 0, -1, wrong(80))
		is(t, "no worker, of plan", plan(), worker, each(greatest), greatest, 0, wrong(80))
	}
	is(t, "one worker", rate(5), 0, only(1, 3600), 0, 0, makes(only(1, 5)))
	is(t, "behind one worker", rate(5), 1, only(1, 3600), 0, 0, wrong(80))
	var sixteen money
	for n := range 16 {
		sixteen.rates = append(sixteen.rates, 100-n)
	}
	for n := range 16 {
		is(t, "sixteen workers", sixteen, n, only(1, 3600), 0, 0, makes(only(1, 100-n)))
	}
	is(t, "behind sixteen workers", sixteen, 16, only(1, 3600), 0, 0, wrong(80))
}

// broken are setups that may not be, each for another reason.
func broken() []api.Setup {
	var l []api.Setup
	but := func(change func(*api.Setup)) {
		s := full()
		change(&s)
		l = append(l, s)
	}
	half := api.Ratio{Num: 2, Den: 4}
	but(func(s *api.Setup) { *s = api.Setup{} })
	but(func(s *api.Setup) { s.Places = 0 })
	but(func(s *api.Setup) { s.Places = 17 })
	but(func(s *api.Setup) { s.Ways[0].B = 3 })
	but(func(s *api.Setup) { s.Ways = make([]api.Way, 65) })
	but(func(s *api.Setup) { s.Pace = half })
	but(func(s *api.Setup) { s.Pace = api.Ratio{} })
	but(func(s *api.Setup) { s.Pace = api.Ratio{Num: -1, Den: 1} })
	but(func(s *api.Setup) { s.Elements[0].Unit = half })
	but(func(s *api.Setup) { s.Classes[1] = half })
	but(func(s *api.Setup) { s.Gears[0] = half })
	but(func(s *api.Setup) { s.Allow = 101 })
	but(func(s *api.Setup) { s.Unit = 0 })
	but(func(s *api.Setup) { s.Cap = 59 })
	but(func(s *api.Setup) { s.PaidBreak = 86401 })
	but(func(s *api.Setup) { s.AutoAfter = -1 })
	but(func(s *api.Setup) { s.AutoBreak = -1 })
	but(func(s *api.Setup) { s.DayReg = s.DayOver + 1 })
	but(func(s *api.Setup) { s.DayOver = 86401 })
	but(func(s *api.Setup) { s.WeekReg = week + 1 })
	but(func(s *api.Setup) { s.NightFrom = 86401 })
	but(func(s *api.Setup) { s.NightTo = -1 })
	but(func(s *api.Setup) { s.Rates = nil })
	but(func(s *api.Setup) { s.Rates = []int{} })
	but(func(s *api.Setup) { s.Rates = make([]int, 17) })
	but(func(s *api.Setup) { s.Rates[0] = -1 })
	but(func(s *api.Setup) { s.Rates[0] = most + 1 })
	but(func(s *api.Setup) { s.Rates[2] = most + 1 })
	but(func(s *api.Setup) { s.Rates[1] = least })
	but(func(s *api.Setup) { s.Rates[1] = greatest })
	but(func(s *api.Setup) { s.Diff = -1 })
	but(func(s *api.Setup) { s.Diff = most + 1 })
	but(func(s *api.Setup) { s.Diff = least })
	but(func(s *api.Setup) { s.Least = -1 })
	but(func(s *api.Setup) { s.Least = most + 1 })
	but(func(s *api.Setup) { s.Least = greatest })
	but(func(s *api.Setup) { s.Fault = -1 })
	but(func(s *api.Setup) { s.Tiers = make([]api.Tier, 9) })
	but(func(s *api.Setup) { s.Tiers[0].Bonus = -1 })
	but(func(s *api.Setup) { s.Tiers[2].Bonus = most + 1 })
	but(func(s *api.Setup) { s.Tiers[1].Bonus = greatest })
	but(func(s *api.Setup) { s.Tiers[1].Least = s.Tiers[0].Least })
	but(func(s *api.Setup) { s.Tiers[2].Least = 1001 })
	return l
}

// P19.1: of a setup that may not be there is ErrSetup, whatever the worker, and all numbers are 0.
func TestNoSetup(t *testing.T) {
	for i, s := range broken() {
		if setup.Check(s) {
			t.Fatalf("%d: %+v may be", i, s)
		}
		for _, worker := range []int{0, 1, 2, -1, 3, len(s.Rates), least, greatest} {
			for _, secs := range []seconds{none, only(1, 3600), each(3600), each(greatest), each(least)} {
				for _, tier := range []int{-1, 0, 1, len(s.Tiers), greatest} {
					if got := told(s, worker, secs, 3600, tier); got != wrong(70) {
						t.Errorf("%d: %d, %v, %d: %v", i, worker, secs, tier, got)
					}
				}
			}
		}
	}
	if got := told(full(), 3, each(3600), 3600, 0); got != wrong(80) {
		t.Errorf("a setup that may be: %v", got)
	}
}

// P19.1: nothing else of the setup counts.
func TestElse(t *testing.T) {
	secs := seconds{5, 3600, 1800, 7, 100, 200, 300}
	want := told(plan().setup(), 1, secs, 999, 0)
	if got := held(t, "full", full(), 1, secs, 999, 0); got != want {
		t.Errorf("%v, want %v", got, want)
	}
	s := full()
	s.Rates[0], s.Rates[2], s.Tiers[1].Bonus, s.Tiers[2].Bonus, s.Fault, s.WeekReg, s.NightTo, s.Allow, s.Unit = 9, 9, 9, 9, 9, 9, 9, 9, 9
	s.Tiers[2].Least = 1000
	if got := told(s, 1, secs, 999, 0); got != want {
		t.Errorf("%v, want %v", got, want)
	}
}

// some is a number from 0 to bound, small ones and great ones, or one of the edges.
func some(r *rand.Rand, bound int, edges ...int) int {
	switch r.Intn(4) {
	case 0:
		return r.Intn(min(bound, 9) + 1)
	case 1:
		if len(edges) > 0 {
			return edges[r.Intn(len(edges))]
		}
	}
	return r.Intn(bound + 1)
}

// chosen is money that may be.
func chosen(r *rand.Rand) money {
	m := money{diff: some(r, most, 0, 75, most), least: some(r, most, 0, 725, most)}
	bound := []int{20, 3000, most}[r.Intn(3)]
	for range 1 + r.Intn(16) {
		m.rates = append(m.rates, some(r, bound, 0))
	}
	for range r.Intn(9) {
		m.bonuses = append(m.bonuses, some(r, bound, 0))
	}
	return m
}

// happened are seconds of all categories, some of them none that may be.
func happened(r *rand.Rand) seconds {
	var secs seconds
	for cat := range cats {
		if r.Intn(3) > 0 {
			secs[cat] = some(r, week, -1, 0, 1, 1799, 1800, 1801, 3600, week-1, week, week+1, least, greatest)
		}
	}
	return secs
}

// P19.1: some of all, by the document's words.
func TestSome(t *testing.T) {
	r := rand.New(rand.NewSource(191))
	made, bonuses, errors := 0, 0, 0
	for range 60000 {
		m := chosen(r)
		worker, tier := r.Intn(len(m.rates)), r.Intn(len(m.bonuses)+2)-1
		if r.Intn(20) == 0 {
			worker = []int{-1, len(m.rates), least, greatest}[r.Intn(4)]
		}
		got := held(t, "some", m.setup(), worker, happened(r), some(r, week, -1, week+1, least, greatest), tier)
		if got.makeup > 0 {
			made++
		}
		if got.bonus > 0 {
			bonuses++
		}
		if got.e != 0 {
			errors++
		}
	}
	if made < 5000 || bonuses < 5000 || errors < 1000 {
		t.Errorf("%d, %d, %d", made, bonuses, errors)
	}
}

// P19.2: gross is not below Least an hour for what is paid, and is all that is told, together.
func TestNotBelowLeast(t *testing.T) {
	r := rand.New(rand.NewSource(192))
	for range 60000 {
		m, secs := chosen(r), happened(r)
		if r.Intn(2) == 0 {
			m.least = min(m.rates[0]+r.Intn(3), most)
		}
		a := told(m.setup(), 0, secs, some(r, week), r.Intn(3))
		paid, all := 0, a.bonus+a.makeup
		for cat := 1; cat < cats; cat++ {
			paid += int(counted(secs[cat]))
			all += a.cents[cat]
		}
		if a.gross*3600 < paid*m.least || a.gross != all || a.cents[0] != 0 || a.e != 0 {
			t.Fatalf("%v, %v: %v", m, secs, a)
		}
		if a.makeup > 0 && (a.gross-1)*3600 >= paid*m.least {
			t.Fatalf("%v, %v: too much is made up: %v", m, secs, a)
		}
		if slices.Min(append(a.cents[:], a.bonus, a.makeup, a.gross)) < 0 {
			t.Fatalf("%v, %v: below 0: %v", m, secs, a)
		}
	}
}

// P19.2: without Least nothing is made up.
func TestWithoutLeast(t *testing.T) {
	r := rand.New(rand.NewSource(193))
	for range 30000 {
		m, secs := chosen(r).atLeast(0), happened(r)
		if a := told(m.setup(), r.Intn(len(m.rates)), secs, some(r, week), r.Intn(9)-1); a.makeup != 0 || a.e != 0 {
			t.Fatalf("%v, %v: %v", m, secs, a)
		}
	}
}

// fewer tells whether b has fewer cents of a category, a lesser bonus, or less gross, than a; what is made up may be less.
func fewer(a, b answer) bool {
	for cat := range cats {
		if b.cents[cat] < a.cents[cat] {
			return true
		}
	}
	return b.bonus < a.bonus || b.gross < a.gross || b.e != 0 || a.e != 0
}

// P19.2: more seconds, a higher rate, more by night, a higher Least, and a higher bonus make no cents fewer.
func TestMore(t *testing.T) {
	r := rand.New(rand.NewSource(194))
	for range 30000 {
		m, secs, eligible := chosen(r).tiers(some(r, most-1)), happened(r), some(r, week, -1, least, week+1, greatest)
		m.rates = []int{some(r, most-1), some(r, most-1)}
		m.diff, m.least = min(m.diff, most-1), min(m.least, most-1)
		was := told(m.setup(), 1, secs, eligible, 0)
		step := func(n int) int { return 1 + some(r, most-1-n) }
		for _, name := range []string{"more seconds", "more eligible seconds", "a higher rate", "more by night", "a higher Least", "a higher bonus"} {
			more, longer, further := m, secs, eligible
			switch name {
			case "more seconds":
				if cat := r.Intn(cats); longer[cat] < greatest-week {
					longer[cat] += 1 + some(r, week)
				}
			case "more eligible seconds":
				if further < greatest-week {
					further += 1 + some(r, week)
				}
			case "a higher rate":
				more.rates = []int{m.rates[0], m.rates[1] + step(m.rates[1])}
			case "more by night":
				more.diff += step(m.diff)
			case "a higher Least":
				more.least += step(m.least)
			default:
				more.bonuses = []int{m.bonuses[0] + step(m.bonuses[0])}
			}
			if now := told(more.setup(), 1, longer, further, 0); fewer(was, now) {
				t.Fatalf("%s: %v, %v, %d: %v; %v, %v, %d: %v", name, m, secs, eligible, was, more, longer, further, now)
			}
		}
	}
}

// P19.2: seconds that rise one by one, and a rate that does, make no cents fewer.
func TestRise(t *testing.T) {
	for _, m := range []money{rate(7), rate(7).by(3).atLeast(7), rate(3).by(1).atLeast(5).tiers(1), rate(1501).by(75).atLeast(2000).tiers(99)} {
		s := m.setup()
		for cat := range cats {
			was := told(s, 0, none, 0, 0)
			for n := 1; n < 7300; n++ {
				now := told(s, 0, only(cat, n), n, 0)
				if fewer(was, now) {
					t.Fatalf("%v: %d seconds of %d: %v behind %v", m, n, cat, now, was)
				}
				was = now
			}
		}
	}
	was := told(rate(0).setup(), 0, each(5000), 0, -1)
	for n := 1; n <= most; n += 7 {
		now := told(rate(n).setup(), 0, each(5000), 0, -1)
		if fewer(was, now) {
			t.Fatalf("a rate of %d: %v behind %v", n, now, was)
		}
		was = now
	}
}

// roomy is a list with spare room, in which there stands what would change the answers.
func roomy[T any](l []T, spare ...T) []T {
	return append(append(make([]T, 0, len(l)+len(spare)), l...), spare...)[:len(l)]
}

// withRoom is the setup, all of whose lists have spare room, and lists are what stands in all of them, the spare room included, in memory of its own.
func withRoom(s api.Setup) api.Setup {
	odd := api.Ratio{Num: 9, Den: 9}
	s.Ways, s.Elements, s.Classes = roomy(s.Ways, api.Way{A: -7}), roomy(s.Elements, api.Element{Unit: odd}), roomy(s.Classes, odd)
	s.Gears, s.Rates, s.Tiers = roomy(s.Gears, odd), roomy(s.Rates, 70, -7), roomy(s.Tiers, api.Tier{Least: 900, Bonus: 77}, api.Tier{Least: -7, Bonus: -7})
	return s
}
func lists(s api.Setup) api.Setup {
	s.Ways, s.Elements, s.Classes = slices.Clone(s.Ways[:cap(s.Ways)]), slices.Clone(s.Elements[:cap(s.Elements)]), slices.Clone(s.Classes[:cap(s.Classes)])
	s.Gears, s.Rates, s.Tiers = slices.Clone(s.Gears[:cap(s.Gears)]), slices.Clone(s.Rates[:cap(s.Rates)]), slices.Clone(s.Tiers[:cap(s.Tiers)])
	return s
}

// alike tells whether the lists of two setups are the same ones.
func alike(a, b api.Setup) bool {
	return slices.Equal(a.Ways, b.Ways) && slices.Equal(a.Elements, b.Elements) && slices.Equal(a.Classes, b.Classes) &&
		slices.Equal(a.Gears, b.Gears) && slices.Equal(a.Rates, b.Rates) && slices.Equal(a.Tiers, b.Tiers)
}

// R3, R4: what is handed in stays as it was, its spare room included, which tells nothing; whether there is an error or not.
func TestHandedIn(t *testing.T) {
	r := rand.New(rand.NewSource(195))
	for range 5000 {
		s := withRoom(chosen(r).setup())
		was, secs := lists(s), happened(r)
		kept := secs
		held(t, "roomy", s, r.Intn(len(s.Rates)+3)-1, secs, some(r, week), r.Intn(len(s.Tiers)+3)-1)
		if !alike(lists(s), was) || secs != kept {
			t.Fatalf("%+v was changed: %+v", was, lists(s))
		}
	}
	s := withRoom(full())
	was := lists(s)
	for worker := -1; worker < 6; worker++ {
		for tier := -1; tier < 6; tier++ {
			held(t, "full", s, worker, each(3601), 3601, tier)
		}
	}
	if !alike(lists(s), was) {
		t.Errorf("%+v was changed: %+v", was, lists(s))
	}
	for i, s := range broken() {
		s = withRoom(s)
		was := lists(s)
		if got := told(s, 0, each(3600), 3600, 0); got != wrong(70) || !alike(lists(s), was) {
			t.Errorf("%d: %v; %+v was changed: %+v", i, got, was, lists(s))
		}
	}
}

// R3, R4: an answer is the same again, and stays as it is, whatever becomes of what was handed in, and of other answers.
func TestOwnMemory(t *testing.T) {
	s, secs := plan().setup(), seconds{1, 3600, 0, 0, 0, 1800, 0}
	cents, _, _, _, _ := Of(s, 0, secs, 1800, 0)
	two := told(s, 0, secs, 1800, 0)
	for cat := range cats {
		cents[cat], secs[cat] = -7, 7
	}
	clear(s.Rates)
	clear(s.Tiers)
	want := makes(seconds{0, 1500, 0, 0, 0, 1163, 0}).and(75, 0)
	if two != want {
		t.Errorf("%v", two)
	}
	if got := told(s, 0, secs, 1800, 0); got != wrong(70) {
		t.Errorf("of a setup that may not be any more: %v", got)
	}
	if got := told(plan().setup(), 0, seconds{1, 3600, 0, 0, 0, 1800, 0}, 1800, 0); got != want {
		t.Errorf("anew: %v", got)
	}
}
