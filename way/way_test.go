package way

import (
	"math"
	"math/rand"
	"slices"
	"strconv"
	"testing"

	"lumper/api"
)

// far is the distance of places that no walk joins, as the chapter says it.
const far = -1

// of is a setup that may be, of places and ways.
func of(places int, l ...api.Way) api.Setup {
	return api.Setup{Places: places, Ways: l, Pace: frac(0, 1), Unit: 1, Cap: 60, Rates: []int{0}}
}

// frac is n through d, whatever these are.
func frac(n, d int) api.Ratio { return api.Ratio{Num: n, Den: d} }

// to is a way.
func to(a, b, meters int) api.Way { return api.Way{A: a, B: b, Meters: meters} }

// whole is a setup that has some of all, all of its numbers unlike those beside them.
func whole() api.Setup {
	return api.Setup{
		Places: 5, Ways: []api.Way{to(0, 2, 300), to(4, 1, 7), to(3, 4, 10000)}, Pace: frac(5, 7),
		Elements: []api.Element{{Fixed: frac(11, 2), Unit: frac(3, 8)}, {Fixed: frac(0, 1), Unit: frac(70000, 3)}},
		Classes:  []api.Ratio{frac(9, 4), frac(13, 6)}, Gears: []api.Ratio{frac(17, 12), frac(2, 15)}, Allow: 10,
		Unit: 900, Cap: 36000, PaidBreak: 1200, AutoAfter: 21600, AutoBreak: 1800, DayReg: 28800, DayOver: 43200, WeekReg: 144000,
		NightFrom: 79200, NightTo: 21601, Rates: []int{1500, 2000, 0}, Diff: 75, Least: 725, Fault: 60,
		Tiers: []api.Tier{{Least: 3, Bonus: 40}, {Least: 100, Bonus: 150}},
	}
}

// blank is a table of places without any walk.
func blank(places int) [][]int {
	table := make([][]int, places)
	for a := range table {
		table[a] = make([]int, places)
		for b := range table[a] {
			table[a][b] = far
		}
	}
	return table
}

// walked is the least lengths of all walks, by how many ways they have. A walk that has as many ways as
// there are places is at a place twice, and is shorter without what lies between.
func walked(s api.Setup) [][]int {
	table := blank(s.Places)
	for start := range table {
		row := table[start]
		row[start] = 0
		for range s.Places {
			ahead := slices.Clone(row)
			step := func(a, b, meters int) {
				if ahead[a] != far && (row[b] == far || ahead[a]+meters < row[b]) {
					row[b] = ahead[a] + meters
				}
			}
			for _, w := range s.Ways {
				step(w.A, w.B, w.Meters)
				step(w.B, w.A, w.Meters)
			}
		}
	}
	return table
}

// tried is the least lengths of all walks of fewer ways than there are places, each of them gone.
func tried(s api.Setup) [][]int {
	table := blank(s.Places)
	var walk func(start, at, length, ways int)
	walk = func(start, at, length, ways int) {
		if table[start][at] == far || length < table[start][at] {
			table[start][at] = length
		}
		if ways == s.Places-1 {
			return
		}
		for _, w := range s.Ways {
			if w.A == at {
				walk(start, w.B, length+w.Meters, ways+1)
			}
			if w.B == at {
				walk(start, w.A, length+w.Meters, ways+1)
			}
		}
	}
	for start := range table {
		walk(start, start, 0, 0)
	}
	return table
}

// same tells whether two tables have the same numbers.
func same(a, b [][]int) bool { return slices.EqualFunc(a, b, slices.Equal) }

// outside are numbers that are no place, of a setup with so many.
func outside(places int) []int {
	return []int{-1, -2, -16, -places, -places - 1, math.MinInt, math.MinInt + 1, -1 << 32, -1 << 31, places, places + 1, 2 * places,
		places + 16, places + 100, 256 + places - 1, 1 << 31, 1 << 32, 1<<32 + places - 1, 1 << 62, math.MaxInt - 1, math.MaxInt}
}

// no holds Dist against Far, of places of which at least one is not there.
func no(t *testing.T, name string, s api.Setup, there []int, missing []int) {
	t.Helper()
	for _, a := range missing {
		for _, b := range slices.Concat(there, missing) {
			if d := Dist(s, a, b); d != far {
				t.Fatalf("%s: Dist(%d, %d) = %d", name, a, b, d)
			}
			if d := Dist(s, b, a); d != far {
				t.Fatalf("%s: Dist(%d, %d) = %d", name, b, a, d)
			}
		}
	}
}

// is holds both calls against a table.
func is(t *testing.T, name string, s api.Setup, want [][]int) {
	t.Helper()
	if got := Table(s); !same(got, want) {
		t.Fatalf("%s: Table(%v) = %v, want %v", name, s.Ways, got, want)
	}
	for a, row := range want {
		for b, n := range row {
			if d := Dist(s, a, b); d != n {
				t.Fatalf("%s: Dist(%v, %d, %d) = %d, want %d", name, s.Ways, a, b, d, n)
			}
		}
	}
}

// held holds both calls against the document's words, of a setup that may be.
func held(t *testing.T, name string, s api.Setup) {
	t.Helper()
	is(t, name, s, walked(s))
	no(t, name, s, []int{0, s.Places / 2, s.Places - 1}, []int{-1, s.Places, math.MinInt, math.MaxInt})
}

// none holds both calls against a setup that may not be.
func none(t *testing.T, name string, s api.Setup) {
	t.Helper()
	if got := Table(s); len(got) != 0 {
		t.Fatalf("%s: Table = %v", name, got)
	}
	no(t, name, s, nil, []int{0, 1, 2, 3, 4, 5, 15, 16, -1, s.Places - 1, s.Places, math.MinInt, math.MaxInt})
}

// P9.1, P9.2: the chapter's example, from each of its places.
func TestExample(t *testing.T) {
	s := of(4, to(0, 1, 5), to(1, 2, 4), to(0, 2, 10))
	is(t, "example", s, [][]int{{0, 5, 9, far}, {5, 0, 4, far}, {9, 4, 0, far}, {far, far, far, 0}})
	if row := Table(s)[0]; !slices.Equal(row, []int{0, 5, 9, api.Far}) {
		t.Errorf("%v", row)
	}
	held(t, "example", s)
}

// P9.1, P9.2: an ordinary setup, whose other numbers tell nothing.
func TestOrdinary(t *testing.T) {
	want := [][]int{
		{0, far, 300, far, far},
		{far, 0, far, 10007, 7},
		{300, far, 0, far, far},
		{far, 10007, far, 0, 10000},
		{far, 7, far, 10000, 0},
	}
	s := whole()
	is(t, "whole", s, want)
	is(t, "plain", of(5, s.Ways...), want)
	held(t, "whole", s)
}

// P9.1, P9.2: one place, two, and as many as there may be, without ways: each is by itself.
func TestNoWays(t *testing.T) {
	is(t, "one", of(1), [][]int{{0}})
	is(t, "two", of(2), [][]int{{0, far}, {far, 0}})
	for places := 1; places <= 16; places++ {
		want := blank(places)
		for a := range want {
			want[a][a] = 0
		}
		is(t, "nil", of(places), want)
		s := of(places)
		s.Ways = []api.Way{}
		is(t, "empty", s, want)
	}
}

// P9.1, P9.2: one way, between any two places, at its least and its greatest Meters, told from either place.
func TestOneWay(t *testing.T) {
	for _, places := range []int{2, 3, 16} {
		for a := range places {
			for b := range places {
				if a == b {
					continue
				}
				for _, meters := range []int{1, 255, 10000} {
					want := walked(of(places))
					want[a][b], want[b][a] = meters, meters
					is(t, "one way", of(places, to(a, b, meters)), want)
				}
			}
		}
	}
}

// P9.1: of several ways between the same two places the least one tells, wherever it stands, whichever way it is told.
func TestManyBetweenTwo(t *testing.T) {
	for _, l := range [][]int{{5, 5}, {4, 5}, {5, 4}, {1, 10000}, {10000, 1}, {7, 7, 7}, {9, 8, 7}, {7, 8, 9}, {8, 7, 9}, {9, 7, 8, 7}} {
		for turned := range 1 << len(l) {
			s := of(3)
			for i, meters := range l {
				if turned>>i&1 == 0 {
					s.Ways = append(s.Ways, to(0, 2, meters))
				} else {
					s.Ways = append(s.Ways, to(2, 0, meters))
				}
			}
			least := slices.Min(l)
			is(t, "between two", s, [][]int{{0, far, least}, {far, 0, far}, {least, far, 0}})
		}
	}
}

// P9.1: as many ways as there may be, all between the same two places, one of them the least.
func TestMostWaysBetweenTwo(t *testing.T) {
	for least := range 64 {
		s := of(2)
		for i := range 64 {
			s.Ways = append(s.Ways, to(i%2, 1-i%2, 10000-i))
		}
		s.Ways[least].Meters = 1
		is(t, "least "+strconv.Itoa(least), s, [][]int{{0, 1}, {1, 0}})
	}
}

// P9.1: walks of two ways, of which each may be told from its one place to the other, and back; the place between them may be any.
func TestTwoWays(t *testing.T) {
	for _, p := range [][3]int{{0, 1, 2}, {0, 2, 1}, {1, 0, 2}} {
		a, by, b := p[0], p[1], p[2]
		for _, first := range []api.Way{to(a, by, 10), to(by, a, 10)} {
			for _, second := range []api.Way{to(by, b, 100), to(b, by, 100)} {
				want := walked(of(3))
				want[a][by], want[by][a], want[by][b], want[b][by], want[a][b], want[b][a] = 10, 10, 100, 100, 110, 110
				is(t, "two ways", of(3, first, second), want)
				is(t, "two ways", of(3, second, first), want)
			}
		}
	}
}

// P9.1: a way that is shorter than two, as long, and longer.
func TestAround(t *testing.T) {
	for _, c := range [][2]int{{1, 1}, {8, 8}, {9, 9}, {10, 9}, {11, 9}, {10000, 9}} {
		d := c[1]
		s := of(3, to(0, 1, 5), to(2, 1, 4), to(0, 2, c[0]))
		is(t, "around", s, [][]int{{0, min(5, 4+d), d}, {min(5, 4+d), 0, 4}, {d, 4, 0}})
	}
	s := of(3, to(0, 1, 9999), to(1, 2, 1), to(0, 2, 10000))
	is(t, "as long", s, [][]int{{0, 9999, 10000}, {9999, 0, 1}, {10000, 1, 0}})
	s = of(3, to(0, 1, 10000), to(1, 2, 10000), to(0, 2, 1))
	is(t, "greatest", s, [][]int{{0, 10000, 1}, {10000, 0, 10000}, {1, 10000, 0}})
}

// chain is all places, joined one behind the other, in the order of l, by ways of so many meters, each second one told backwards.
func chain(l []int, meters int) []api.Way {
	var ways []api.Way
	for i := 1; i < len(l); i++ {
		if i%2 == 1 {
			ways = append(ways, to(l[i-1], l[i], meters))
		} else {
			ways = append(ways, to(l[i], l[i-1], meters))
		}
	}
	return ways
}

// orders are orders of so many places: rising, falling, from both ends, from the middle, and some by a fixed chance.
func orders(places int) [][]int {
	rising := make([]int, places)
	for i := range rising {
		rising[i] = i
	}
	falling := slices.Clone(rising)
	slices.Reverse(falling)
	var ends []int
	for i := range places {
		if i%2 == 0 {
			ends = append(ends, i/2)
		} else {
			ends = append(ends, places-1-i/2)
		}
	}
	middle := slices.Clone(ends)
	slices.Reverse(middle)
	all := [][]int{rising, falling, ends, middle}
	r := rand.New(rand.NewSource(91))
	for range 40 {
		all = append(all, r.Perm(places))
	}
	return all
}

// P9.1, P9.2: places that are joined by as many ways as a walk may need, in whatever order they stand.
func TestChain(t *testing.T) {
	for _, places := range []int{2, 3, 4, 7, 15, 16} {
		for _, l := range orders(places) {
			for _, meters := range []int{1, 10000} {
				want := blank(places)
				for i, a := range l {
					for j, b := range l {
						want[a][b] = meters * max(i-j, j-i)
					}
				}
				is(t, "chain", of(places, chain(l, meters)...), want)
				behind := chain(l, meters)
				slices.Reverse(behind)
				is(t, "chain, told from behind", of(places, behind...), want)
			}
		}
	}
	if d := Dist(of(16, chain(orders(16)[0], 10000)...), 15, 0); d != 150000 {
		t.Errorf("%d", d)
	}
}

// P9.1: a way that is longer than many, as long, and shorter.
func TestLongerThanMany(t *testing.T) {
	for _, l := range orders(16) {
		for _, meters := range []int{1, 13, 14, 15, 16, 17, 10000} {
			s := of(16, append(chain(l, 1), to(l[15], l[0], meters))...)
			held(t, "ring", s)
			if d, want := Dist(s, l[0], l[15]), min(15, meters); d != want {
				t.Fatalf("%v: %d, want %d", l, d, want)
			}
			if d, want := Dist(s, l[7], l[15]), min(8, 7+meters); d != want {
				t.Fatalf("%v: %d, want %d", l, d, want)
			}
		}
	}
}

// P9.1, P9.2: several islands; what lies in unlike ones is Far.
func TestIslands(t *testing.T) {
	for _, l := range orders(16) {
		s := of(16, slices.Concat(chain(l[:5], 3), chain(l[5:9], 10000), chain(l[9:15], 7))...)
		held(t, "islands", s)
		islands := []int{0, 0, 0, 0, 0, 1, 1, 1, 1, 2, 2, 2, 2, 2, 2, 3}
		for i, a := range l {
			for j, b := range l {
				if d := Dist(s, a, b); (d == far) != (islands[i] != islands[j]) {
					t.Fatalf("%v: %d, %d: %d", l, a, b, d)
				}
			}
		}
	}
}

// P9.1: a star: all walks go by the one place in the middle.
func TestStar(t *testing.T) {
	for middle := range 16 {
		s := of(16)
		want := blank(16)
		for a := range 16 {
			if a != middle {
				s.Ways = append(s.Ways, to(a, middle, 100+a))
			}
			for b := range 16 {
				want[a][b] = 200 + a + b
				if a == middle || b == middle {
					want[a][b] = 100 + a + b - middle
				}
			}
			want[a][a] = 0
		}
		is(t, "star", s, want)
	}
}

// P9.1, P9.2: all setups of up to four places with up to three ways, of some Meters, each of their walks gone.
func TestSmall(t *testing.T) {
	for places := 1; places <= 4; places++ {
		var ways []api.Way
		for a := range places {
			for b := range places {
				for _, meters := range []int{1, 2, 4} {
					if a != b {
						ways = append(ways, to(a, b, meters))
					}
				}
			}
		}
		var more func(l []api.Way)
		more = func(l []api.Way) {
			s := of(places, l...)
			want := tried(s)
			if !same(Table(s), want) {
				t.Fatalf("Table(%d, %v) = %v, want %v", places, l, Table(s), want)
			}
			if !same(walked(s), want) {
				t.Fatalf("%v: the tests' own words are unlike", l)
			}
			if len(l) == 3 {
				return
			}
			for _, w := range ways {
				more(append(slices.Clone(l), w))
			}
		}
		more(nil)
	}
}

// chosen is a setup with places and ways by a fixed chance.
func chosen(r *rand.Rand) api.Setup {
	s := whole()
	s.Places, s.Ways = 1+r.Intn(16), nil
	most := []int{1, 3, 100, 10000}[r.Intn(4)]
	for range r.Intn(65) {
		a, b := r.Intn(s.Places), r.Intn(s.Places)
		if a != b {
			s.Ways = append(s.Ways, to(a, b, 1+r.Intn(most)))
		}
	}
	// Few ways, too, so that places stay apart.
	if r.Intn(2) == 0 {
		s.Ways = s.Ways[:r.Intn(min(len(s.Ways), s.Places)+1)]
	}
	return s
}

// P9.1, P9.2: setups of all sizes.
func TestChance(t *testing.T) {
	r := rand.New(rand.NewSource(92))
	for i := range 800 {
		held(t, strconv.Itoa(i), chosen(r))
	}
}

// P9.1, P9.2: as many places, and as many ways, as there may be.
func TestMost(t *testing.T) {
	r := rand.New(rand.NewSource(93))
	for range 60 {
		s := of(16)
		for range 64 {
			a := r.Intn(16)
			s.Ways = append(s.Ways, to(a, (a+1+r.Intn(15))%16, []int{1, 10000, 1 + r.Intn(10000)}[r.Intn(3)]))
		}
		held(t, "most", s)
		// Each of the ways counts: behind the others, too.
		s.Ways[63] = to(0, 15, 1)
		held(t, "last", s)
		if d := Dist(s, 15, 0); d != 1 {
			t.Fatalf("%d", d)
		}
		s.Ways = append(s.Ways, to(0, 15, 1))
		none(t, "one way more", s)
	}
}

// P9.2: numbers that are no place, beside each that is one, and beside each other.
func TestNoPlace(t *testing.T) {
	for places := 1; places <= 16; places++ {
		l := orders(places)[0]
		no(t, strconv.Itoa(places), of(places, chain(l, 2)...), l, outside(places))
		if d := Dist(of(places, chain(l, 2)...), 0, places-1); d != 2*(places-1) {
			t.Errorf("%d: %d", places, d)
		}
	}
}

// P9.1, P9.2: from each place to itself no way is needed, nor taken.
func TestSelf(t *testing.T) {
	r := rand.New(rand.NewSource(94))
	for range 300 {
		s := chosen(r)
		table := Table(s)
		for a := range s.Places {
			if table[a][a] != 0 || Dist(s, a, a) != 0 {
				t.Fatalf("%v: %d: %d, %d", s.Ways, a, table[a][a], Dist(s, a, a))
			}
		}
	}
}

// bound is a number of a setup, and from what to what it may be.
type bound struct {
	name        string
	at          func(s *api.Setup) *int
	least, most int
}

// bounds are those of all numbers of the whole setup, but of ratios.
func bounds() []bound {
	return []bound{
		{"Places", func(s *api.Setup) *int { return &s.Places }, 5, 16},
		{"first A", func(s *api.Setup) *int { s.Ways[0].B = 4; return &s.Ways[0].A }, 0, 3},
		{"last A", func(s *api.Setup) *int { s.Ways[2].B = 0; return &s.Ways[2].A }, 1, 4},
		{"first B", func(s *api.Setup) *int { s.Ways[0].A = 4; return &s.Ways[0].B }, 0, 3},
		{"last B", func(s *api.Setup) *int { s.Ways[2].A = 0; return &s.Ways[2].B }, 1, 4},
		{"first Meters", func(s *api.Setup) *int { return &s.Ways[0].Meters }, 1, 10000},
		{"last Meters", func(s *api.Setup) *int { return &s.Ways[2].Meters }, 1, 10000},
		{"Allow", func(s *api.Setup) *int { return &s.Allow }, 0, 100},
		{"Unit", func(s *api.Setup) *int { return &s.Unit }, 1, 3600},
		{"Cap", func(s *api.Setup) *int { return &s.Cap }, 60, 57600},
		{"PaidBreak", func(s *api.Setup) *int { return &s.PaidBreak }, 0, 86400},
		{"AutoAfter", func(s *api.Setup) *int { return &s.AutoAfter }, 0, 86400},
		{"AutoBreak", func(s *api.Setup) *int { return &s.AutoBreak }, 0, 86400},
		{"DayReg", func(s *api.Setup) *int { return &s.DayReg }, 0, 43200},
		{"DayOver", func(s *api.Setup) *int { return &s.DayOver }, 28800, 86400},
		{"WeekReg", func(s *api.Setup) *int { return &s.WeekReg }, 0, 604800},
		{"NightFrom", func(s *api.Setup) *int { return &s.NightFrom }, 0, 86400},
		{"NightTo", func(s *api.Setup) *int { return &s.NightTo }, 0, 86400},
		{"Rate", func(s *api.Setup) *int { return &s.Rates[1] }, 0, 100000},
		{"Diff", func(s *api.Setup) *int { return &s.Diff }, 0, 100000},
		{"Least", func(s *api.Setup) *int { return &s.Least }, 0, 100000},
		{"Fault", func(s *api.Setup) *int { return &s.Fault }, 0, 86400},
		{"Bonus", func(s *api.Setup) *int { return &s.Tiers[0].Bonus }, 0, 100000},
		{"first tier", func(s *api.Setup) *int { return &s.Tiers[0].Least }, 0, 99},
		{"last tier", func(s *api.Setup) *int { return &s.Tiers[1].Least }, 4, 1000},
	}
}

// P9.1, P9.2: of a setup one of whose numbers may not be there is nothing; at its bounds there is all.
func TestBounds(t *testing.T) {
	for _, c := range bounds() {
		with := func(n int) api.Setup {
			s := whole()
			*c.at(&s) = n
			return s
		}
		for _, n := range []int{c.least, c.least + 1, c.most - 1, c.most} {
			held(t, c.name, with(n))
		}
		for _, n := range []int{c.least - 1, c.most + 1, -1, -c.most - 1, 1 << 31, 1 << 32, 1<<32 + c.least, math.MaxInt, math.MinInt} {
			none(t, c.name+" "+strconv.Itoa(n), with(n))
		}
	}
}

// P9.1, P9.2: no place at all, whatever else there is, and as many as may not be.
func TestPlacesMayNotBe(t *testing.T) {
	for _, places := range []int{0, -1, -16, 17, 18, 32, 256, 1 << 32, math.MaxInt, math.MinInt} {
		none(t, "without ways", of(places))
		none(t, "with one", of(places, to(0, 1, 1)))
	}
	none(t, "nothing", api.Setup{})
	none(t, "empty lists", api.Setup{Ways: []api.Way{}, Elements: []api.Element{}, Classes: []api.Ratio{}, Gears: []api.Ratio{}, Rates: []int{}, Tiers: []api.Tier{}})
}

// P9.1, P9.2: a way that may not be, alone, ahead of good ones and behind them.
func TestWaysMayNotBe(t *testing.T) {
	good := []api.Way{to(0, 1, 5), to(1, 2, 4)}
	wrong := []api.Way{{}, to(0, 0, 1), to(1, 1, 5), to(2, 2, 10000), to(0, 3, 1), to(3, 0, 1), to(3, 3, 1), to(-1, 0, 1), to(0, -1, 1), to(-1, -1, 1),
		to(0, 1, 0), to(1, 0, -1), to(0, 1, 10001), to(2, 0, math.MaxInt), to(2, 0, math.MinInt), to(math.MaxInt, 0, 1), to(0, math.MinInt, 1),
		to(1<<32, 1, 1), to(1, 1<<32, 1), to(0, 1, 1<<32+1), to(-1<<32, 1, 5)}
	for _, w := range wrong {
		name := strconv.Itoa(w.A) + " " + strconv.Itoa(w.B) + " " + strconv.Itoa(w.Meters)
		for at := range 3 {
			none(t, name, of(3, slices.Insert(slices.Clone(good), at, w)...))
		}
		none(t, name, of(3, w))
	}
}

// P9.1, P9.2: ratios that may not be, or are below 0, wherever one stands; and the greatest one that may be.
func TestRatiosMayNotBe(t *testing.T) {
	spots := []func(s *api.Setup) *api.Ratio{
		func(s *api.Setup) *api.Ratio { return &s.Pace },
		func(s *api.Setup) *api.Ratio { return &s.Elements[0].Fixed },
		func(s *api.Setup) *api.Ratio { return &s.Elements[1].Unit },
		func(s *api.Setup) *api.Ratio { return &s.Classes[1] },
		func(s *api.Setup) *api.Ratio { return &s.Gears[1] },
	}
	for i, spot := range spots {
		for _, r := range []api.Ratio{{}, frac(1, 0), frac(2, 4), frac(0, 2), frac(-1, 2), frac(1, -2), frac(-1, -2), frac(1<<31, 1), frac(1, 1<<31), frac(math.MinInt, 1), frac(math.MaxInt, math.MaxInt)} {
			s := whole()
			*spot(&s) = r
			none(t, "ratio "+strconv.Itoa(i), s)
		}
		for _, r := range []api.Ratio{frac(0, 1), frac(1, 2), frac(1<<31-1, 1<<31-2)} {
			s := whole()
			*spot(&s) = r
			held(t, "ratio "+strconv.Itoa(i), s)
		}
	}
}

// repeated is a list of n times x.
func repeated[T any](x T, n int) []T { return slices.Repeat([]T{x}, n) }

// P9.1, P9.2: lists that are longer than they may be, by one, and by many; and those that are as long as they may be.
func TestListsMayNotBe(t *testing.T) {
	lists := map[string]struct {
		most int
		set  func(s *api.Setup, n int)
	}{
		"Ways":     {64, func(s *api.Setup, n int) { s.Ways = repeated(to(1, 0, 1), n) }},
		"Elements": {8, func(s *api.Setup, n int) { s.Elements = repeated(s.Elements[0], n) }},
		"Classes":  {8, func(s *api.Setup, n int) { s.Classes = repeated(frac(1, 2), n) }},
		"Gears":    {8, func(s *api.Setup, n int) { s.Gears = repeated(frac(3, 2), n) }},
		"Rates":    {16, func(s *api.Setup, n int) { s.Rates = repeated(5, n) }},
		"Tiers": {8, func(s *api.Setup, n int) {
			s.Tiers = repeated(api.Tier{}, n)
			for i := range s.Tiers {
				s.Tiers[i].Least = i
			}
		}},
	}
	for name, l := range lists {
		for _, n := range []int{0, 1, l.most, l.most + 1, l.most + 2, l.most + 256, 1000, 1 << 16} {
			s := whole()
			if l.set(&s, n); n > l.most || name == "Rates" && n == 0 {
				none(t, name+" "+strconv.Itoa(n), s)
			} else {
				held(t, name+" "+strconv.Itoa(n), s)
			}
		}
	}
	s := whole()
	s.Tiers[1].Least = s.Tiers[0].Least
	none(t, "tiers that do not rise", s)
}

// P9.1: what is not a place or a way tells nothing, so long as the setup may be.
func TestOtherNumbers(t *testing.T) {
	r := rand.New(rand.NewSource(95))
	for range 300 {
		s := chosen(r)
		if a, b := Table(s), Table(of(s.Places, s.Ways...)); !same(a, b) {
			t.Fatalf("%v: %v, %v", s.Ways, a, b)
		}
	}
}

// P9.1: in whatever order ways stand, and from whichever place each is told, the table is the same one; and the same again.
func TestAnyOrder(t *testing.T) {
	r := rand.New(rand.NewSource(96))
	for range 500 {
		s := chosen(r)
		want := Table(s)
		for range 4 {
			other := s
			other.Ways = slices.Clone(s.Ways)
			r.Shuffle(len(other.Ways), func(i, j int) { other.Ways[i], other.Ways[j] = other.Ways[j], other.Ways[i] })
			for i, w := range other.Ways {
				if r.Intn(2) == 0 {
					other.Ways[i] = to(w.B, w.A, w.Meters)
				}
			}
			if got := Table(other); !same(got, want) || !same(Table(s), want) {
				t.Fatalf("%v: %v, want %v", other.Ways, got, want)
			}
		}
	}
}

// P9.1: with other names of the places the distances are those of the same places.
func TestAnyNames(t *testing.T) {
	r := rand.New(rand.NewSource(97))
	for range 500 {
		s := chosen(r)
		names := r.Perm(s.Places)
		other := s
		other.Ways = slices.Clone(s.Ways)
		for i, w := range other.Ways {
			other.Ways[i] = to(names[w.A], names[w.B], w.Meters)
		}
		one, two := Table(s), Table(other)
		for a := range s.Places {
			for b := range s.Places {
				if one[a][b] != two[names[a]][names[b]] {
					t.Fatalf("%v, %v: %d, %d: %d, %d", s.Ways, names, a, b, one[a][b], two[names[a]][names[b]])
				}
			}
		}
	}
}

// farther tells whether a distance is greater than another one; Far is greater than all that are none.
func farther(a, b int) bool { return b != far && (a == far || a > b) }

// P9.3: there is as far as back, and by a third place it is no nearer.
func TestThereAndBack(t *testing.T) {
	r := rand.New(rand.NewSource(98))
	for range 500 {
		s := chosen(r)
		table := Table(s)
		for a := range s.Places {
			for b := range s.Places {
				if table[a][b] != table[b][a] || Dist(s, a, b) != Dist(s, b, a) {
					t.Fatalf("%v: %d, %d: %d, back %d", s.Ways, a, b, table[a][b], table[b][a])
				}
				for by := range s.Places {
					there, on := table[a][by], table[by][b]
					if there != far && on != far && farther(table[a][b], there+on) {
						t.Fatalf("%v: %d, %d: %d, by %d: %d", s.Ways, a, b, table[a][b], by, there+on)
					}
				}
			}
		}
	}
}

// P9.3: a way more makes nothing farther, and its own places no farther than it is long; where it is longer than there is, it changes nothing.
func TestOneWayMore(t *testing.T) {
	r := rand.New(rand.NewSource(99))
	for range 1000 {
		s := chosen(r)
		if s.Places == 1 || len(s.Ways) == 64 {
			continue
		}
		a := r.Intn(s.Places)
		w := to(a, (a+1+r.Intn(s.Places-1))%s.Places, 1+r.Intn(10000))
		more := s
		more.Ways = append(slices.Clone(s.Ways), w)
		ahead, behind := Table(s), Table(more)
		for a, row := range ahead {
			for b, n := range row {
				if farther(behind[a][b], n) {
					t.Fatalf("%v, and %v: %d, %d: %d, then %d", s.Ways, w, a, b, n, behind[a][b])
				}
			}
		}
		if farther(behind[w.A][w.B], w.Meters) {
			t.Fatalf("%v, and %v: %d", s.Ways, w, behind[w.A][w.B])
		}
		if !farther(ahead[w.A][w.B], w.Meters) && !same(ahead, behind) {
			t.Fatalf("%v, and %v: %v, then %v", s.Ways, w, ahead, behind)
		}
	}
}

// roomy is s with spare room in each list, in which there stands what would change the answers.
func roomy(s api.Setup) api.Setup {
	s.Ways = append(slices.Clone(s.Ways), to(0, s.Places-1, 1), to(-7, -7, -7))[:len(s.Ways)]
	s.Elements = append(slices.Clone(s.Elements), api.Element{}, api.Element{})[:len(s.Elements)]
	s.Classes = append(slices.Clone(s.Classes), frac(-7, -7))[:len(s.Classes)]
	s.Gears = append(slices.Clone(s.Gears), frac(-7, -7))[:len(s.Gears)]
	s.Rates = append(slices.Clone(s.Rates), -7, -7)[:len(s.Rates)]
	s.Tiers = append(slices.Clone(s.Tiers), api.Tier{Least: -7})[:len(s.Tiers)]
	return s
}

// clone is a setup in memory of its own, with what stands in the spare room as elements.
func clone(s api.Setup) api.Setup {
	s.Ways, s.Elements = slices.Clone(s.Ways[:cap(s.Ways)]), slices.Clone(s.Elements[:cap(s.Elements)])
	s.Classes, s.Gears = slices.Clone(s.Classes[:cap(s.Classes)]), slices.Clone(s.Gears[:cap(s.Gears)])
	s.Rates, s.Tiers = slices.Clone(s.Rates[:cap(s.Rates)]), slices.Clone(s.Tiers[:cap(s.Tiers)])
	return s
}

// equal tells whether the lists of two setups are the same ones.
func equal(a, b api.Setup) bool {
	return slices.Equal(a.Ways, b.Ways) && slices.Equal(a.Elements, b.Elements) && slices.Equal(a.Classes, b.Classes) &&
		slices.Equal(a.Gears, b.Gears) && slices.Equal(a.Rates, b.Rates) && slices.Equal(a.Tiers, b.Tiers)
}

// P9.1, P9.2: what is handed in stays as it was, its spare room too, and that tells nothing; of setups that may not be, too.
func TestHandedIn(t *testing.T) {
	r := rand.New(rand.NewSource(100))
	for range 300 {
		mold := chosen(r)
		s := roomy(mold)
		was := clone(s)
		held(t, "roomy", s)
		if !equal(clone(s), was) {
			t.Fatalf("%v was changed", mold.Ways)
		}
		s.Cap = 59
		none(t, "roomy", s)
		if !equal(clone(s), was) {
			t.Fatalf("%v was changed, though it may not be", mold.Ways)
		}
	}
}

// P9.1: a setup that is changed behind the call changes no answer: nothing of it is kept.
func TestNotKept(t *testing.T) {
	s := whole()
	got := Table(s)
	want := walked(s)
	clear(s.Ways)
	if !same(got, want) {
		t.Errorf("%v", got)
	}
	none(t, "cleared", s)
	s.Ways = []api.Way{to(0, 4, 3)}
	held(t, "another one", s)
}

// P9.1: answers are in memory of their own: no row shares any with another one, its spare room included, nor two answers.
func TestOwnMemory(t *testing.T) {
	for _, s := range []api.Setup{of(1), of(2), of(2, to(0, 1, 5)), whole(), of(16), of(16, chain(orders(16)[5], 9)...)} {
		want := walked(s)
		for a := range s.Places {
			one, two := Table(s), Table(s)
			row := one[a][:cap(one[a])]
			for i := range row {
				row[i] = -7
			}
			for b := range s.Places {
				if b != a && !slices.Equal(one[b], want[b]) {
					t.Fatalf("row %d changes row %d", a, b)
				}
			}
			one[a] = append(one[a], -7, -7, -7)
			clear(one[:cap(one)])
			if !same(two, want) {
				t.Fatalf("an answer changes another one: %v", two)
			}
			is(t, "again", s, want)
		}
	}
}
