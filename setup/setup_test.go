package setup

import (
	"bytes"
	"fmt"
	"math"
	"math/big"
	"math/rand"
	"runtime"
	"slices"
	"strconv"
	"testing"

	"lumper/api"
)

// frac is n through d, whatever these are.
func frac(n, d int) api.Ratio { return api.Ratio{Num: n, Den: d} }

// whole is a setup with some of each list, all of its numbers unlike those beside them.
func whole() api.Setup {
	return api.Setup{
		Places: 5, Ways: []api.Way{{A: 0, B: 2, Meters: 300}, {A: 4, B: 1, Meters: 7}, {A: 3, B: 4, Meters: 10000}}, Pace: frac(5, 7),
		Elements: []api.Element{{Fixed: frac(11, 2), Unit: frac(3, 8)}, {Fixed: frac(0, 1), Unit: frac(70000, 3)}},
		Classes:  []api.Ratio{frac(9, 4), frac(13, 6), frac(1, 1)}, Gears: []api.Ratio{frac(17, 12), frac(2, 15)}, Allow: 10,
		Unit: 900, Cap: 36000, PaidBreak: 1200, AutoAfter: 21600, AutoBreak: 1800, DayReg: 28800, DayOver: 43200, WeekReg: 144000,
		NightFrom: 79200, NightTo: 21601, Rates: []int{1500, 2000, 0}, Diff: 75, Least: 725, Fault: 60,
		Tiers: []api.Tier{{Least: 3, Bonus: 40}, {Least: 100, Bonus: 150}, {Least: 101, Bonus: 20}},
	}
}

// lowest is a setup whose numbers are as low, and whose lists are as short, as they may be.
func lowest() api.Setup {
	return api.Setup{Places: 1, Pace: frac(0, 1), Unit: 1, Cap: 60, Rates: []int{0}}
}

// repeated is a list of n times x.
func repeated[T any](x T, n int) []T {
	l := make([]T, n)
	for i := range l {
		l[i] = x
	}
	return l
}

// stairs are n tiers, each by 1 above the one ahead, up to top.
func stairs(n, top int) []api.Tier {
	l := repeated(api.Tier{Bonus: 100000}, n)
	for i := range l {
		l[i].Least = top - n + 1 + i
	}
	return l
}

// highest is a setup whose numbers are as great, and whose lists are as long, as they may be.
func highest() api.Setup {
	top := frac(2147483647, 2147483646)
	return api.Setup{
		Places: 16, Ways: repeated(api.Way{A: 15, B: 14, Meters: 10000}, 64), Pace: top,
		Elements: repeated(api.Element{Fixed: top, Unit: top}, 8), Classes: repeated(top, 8), Gears: repeated(top, 8), Allow: 100,
		Unit: 3600, Cap: 57600, PaidBreak: 86400, AutoAfter: 86400, AutoBreak: 86400, DayReg: 86400, DayOver: 86400, WeekReg: 604800,
		NightFrom: 86400, NightTo: 86400, Rates: repeated(100000, 16), Diff: 100000, Least: 100000, Fault: 86400, Tiers: stairs(8, 1000),
	}
}

// bases are setups that may be; each call makes them anew.
func bases() []api.Setup { return []api.Setup{whole(), lowest(), highest()} }

// packed is the bytes of numbers that are not below 0, as chapter 5 says them.
func packed(l ...int) []byte {
	var b []byte
	for _, n := range l {
		held := big.NewInt(int64(n)).Bytes()
		b = append(append(b, byte(len(held))), held...)
	}
	return b
}

// counted is a list's numbers.
func counted[T any](l []T, of func(T) []int) []int {
	all := []int{len(l)}
	for _, x := range l {
		all = append(all, of(x)...)
	}
	return all
}

// told is a setup's numbers, as the document says them; of one that may not be, too.
func told(s api.Setup) []int {
	of := func(r api.Ratio) []int { return []int{r.Num, r.Den} }
	return slices.Concat([]int{s.Places},
		counted(s.Ways, func(w api.Way) []int { return []int{w.A, w.B, w.Meters} }), of(s.Pace),
		counted(s.Elements, func(e api.Element) []int { return append(of(e.Fixed), of(e.Unit)...) }),
		counted(s.Classes, of), counted(s.Gears, of),
		[]int{s.Allow, s.Unit, s.Cap, s.PaidBreak, s.AutoAfter, s.AutoBreak, s.DayReg, s.DayOver, s.WeekReg, s.NightFrom, s.NightTo},
		counted(s.Rates, func(n int) []int { return []int{n} }), []int{s.Diff, s.Least, s.Fault},
		counted(s.Tiers, func(t api.Tier) []int { return []int{t.Least, t.Bonus} }))
}

// said is a setup's bytes, as the document says them; of one that may not be, too.
func said(s api.Setup) []byte { return packed(told(s)...) }

// clone is a setup in memory of its own, its lists without spare room.
func clone(s api.Setup) api.Setup {
	s.Ways, s.Elements = slices.Clip(slices.Clone(s.Ways)), slices.Clip(slices.Clone(s.Elements))
	s.Classes, s.Gears = slices.Clip(slices.Clone(s.Classes)), slices.Clip(slices.Clone(s.Gears))
	s.Rates, s.Tiers = slices.Clip(slices.Clone(s.Rates)), slices.Clip(slices.Clone(s.Tiers))
	return s
}

// same tells whether two setups have the same numbers; their order tells them apart.
func same(a, b api.Setup) bool { return slices.Equal(told(a), told(b)) }

// shares tells whether a ratio is one that may be, and is not below 0, in exact arithmetic.
func shares(r api.Ratio) bool {
	if r.Num < 0 || r.Num > 2147483647 || r.Den < 1 || r.Den > 2147483647 {
		return false
	}
	exact := big.NewRat(int64(r.Num), int64(r.Den))
	return exact.Num().Int64() == int64(r.Num) && exact.Denom().Int64() == int64(r.Den)
}

// from tells whether a number is from one to another.
func from(n, least, most int) bool { return n >= least && n <= most }

// listsMay tells whether a setup's lists may be, word for word.
func listsMay(s api.Setup) bool {
	ok := len(s.Ways) <= 64 && len(s.Elements) <= 8 && len(s.Classes) <= 8 && len(s.Gears) <= 8 && len(s.Tiers) <= 8 && from(len(s.Rates), 1, 16)
	for _, w := range s.Ways {
		ok = ok && w.A >= 0 && w.A < s.Places && w.B >= 0 && w.B < s.Places && w.A != w.B && from(w.Meters, 1, 10000)
	}
	for _, e := range s.Elements {
		ok = ok && shares(e.Fixed) && shares(e.Unit)
	}
	for _, r := range slices.Concat(s.Classes, s.Gears) {
		ok = ok && shares(r)
	}
	for _, n := range s.Rates {
		ok = ok && from(n, 0, 100000)
	}
	for i, t := range s.Tiers {
		ok = ok && from(t.Bonus, 0, 100000) && from(t.Least, 0, 1000) && (i == 0 || t.Least > s.Tiers[i-1].Least)
	}
	return ok
}

// may tells whether a setup may be, word for word.
func may(s api.Setup) bool {
	ok := listsMay(s) && from(s.Places, 1, 16) && shares(s.Pace) && from(s.Allow, 0, 100) && from(s.Unit, 1, 3600) && from(s.Cap, 60, 57600)
	for _, n := range []int{s.PaidBreak, s.AutoAfter, s.AutoBreak, s.NightFrom, s.NightTo, s.Fault} {
		ok = ok && from(n, 0, 86400)
	}
	return ok && from(s.DayReg, 0, s.DayOver) && s.DayOver <= 86400 && from(s.WeekReg, 0, 604800) && from(s.Diff, 0, 100000) && from(s.Least, 0, 100000)
}

// good holds all calls against a setup that may be.
func good(t *testing.T, name string, s api.Setup) {
	t.Helper()
	if !Check(s) {
		t.Fatalf("%s: Check(%v) = false", name, s)
	}
	b, e := Write(s)
	if e != api.OK || !bytes.Equal(b, said(s)) {
		t.Fatalf("%s: Write(%v) = %v, %d", name, s, b, e)
	}
	if x, e := Read(b); e != api.OK || !same(x, s) {
		t.Fatalf("%s: Read(%v) = %v, %d, want %v", name, b, x, e, s)
	}
}

// bad holds all calls against a setup that may not be; its numbers' bytes, if none is below 0, are of none.
func bad(t *testing.T, name string, s api.Setup) {
	t.Helper()
	if Check(s) {
		t.Fatalf("%s: Check(%s) = true", name, brief(s))
	}
	if b, e := Write(s); len(b) != 0 || e != api.ErrSetup {
		t.Fatalf("%s: Write(%s) = %v, %d", name, brief(s), b, e)
	}
	if l := told(s); slices.Min(l) >= 0 {
		none(t, name, packed(l...))
	}
}

// held holds all calls against what the document says of a setup.
func held(t *testing.T, name string, s api.Setup) {
	t.Helper()
	if may(s) {
		good(t, name, s)
	} else {
		bad(t, name, s)
	}
}

// brief is what x is like, cut where that is long.
func brief(x any) string {
	text := fmt.Sprint(x)
	return text[:min(len(text), 1000)]
}

// none holds Read against bytes of no setup: nothing is answered beside the error.
func none(t *testing.T, name string, b []byte) {
	t.Helper()
	if s, e := Read(b); e != api.ErrSetup || !same(s, api.Setup{}) {
		t.Fatalf("%s: Read(%s) = %v, %d", name, brief(b), s, e)
	}
}

// P7.1: the setup of the chapter's example.
func TestExample(t *testing.T) {
	s := lowest()
	s.Places, s.Ways = 3, []api.Way{{A: 0, B: 2, Meters: 300}}
	b, e := Write(s)
	if want := []byte{1, 3, 1, 1, 0, 1, 2, 2, 1, 44}; e != api.OK || !bytes.HasPrefix(b, want) {
		t.Errorf("%v, %d", b, e)
	}
	good(t, "example", s)
}

// known are setups with their bytes written out.
func known() map[string]api.Setup {
	s := lowest()
	s.Places, s.Pace, s.Ways, s.Rates = 16, frac(256, 1), []api.Way{{A: 15, B: 0, Meters: 10000}}, []int{65536, 1}
	return map[string]api.Setup{
		"\x01\x01" + "\x00" + "\x00\x01\x01" + "\x00\x00\x00" + "\x00\x01\x01\x01\x3c" + "\x00\x00\x00\x00\x00\x00\x00\x00" + "\x01\x01\x00" + "\x00\x00\x00" + "\x00": lowest(),
		"\x01\x10" + "\x01\x01\x01\x0f\x00\x02\x27\x10" + "\x02\x01\x00\x01\x01" + "\x00\x00\x00" + "\x00\x01\x01\x01\x3c" + "\x00\x00\x00\x00\x00\x00\x00\x00" +
			"\x01\x02\x03\x01\x00\x00\x01\x01" + "\x00\x00\x00" + "\x00": s,
		"\x01\x05" + "\x01\x03\x00\x01\x02\x02\x01\x2c\x01\x04\x01\x01\x01\x07\x01\x03\x01\x04\x02\x27\x10" + "\x01\x05\x01\x07" +
			"\x01\x02\x01\x0b\x01\x02\x01\x03\x01\x08\x00\x01\x01\x03\x01\x11\x70\x01\x03" + "\x01\x03\x01\x09\x01\x04\x01\x0d\x01\x06\x01\x01\x01\x01" +
			"\x01\x02\x01\x11\x01\x0c\x01\x02\x01\x0f" + "\x01\x0a\x02\x03\x84\x02\x8c\xa0" + "\x02\x04\xb0\x02\x54\x60\x02\x07\x08" +
			"\x02\x70\x80\x02\xa8\xc0\x03\x02\x32\x80\x03\x01\x35\x60\x02\x54\x61" + "\x01\x03\x02\x05\xdc\x02\x07\xd0\x00" + "\x01\x4b\x02\x02\xd5\x01\x3c" +
			"\x01\x03\x01\x03\x01\x28\x01\x64\x01\x96\x01\x65\x01\x14": whole(),
	}
}

// P7.1, P7.2: setups whose bytes are known, written and read.
func TestKnown(t *testing.T) {
	for want, s := range known() {
		if b, e := Write(s); e != api.OK || string(b) != want {
			t.Errorf("Write(%v) = %q, %d, want %q", s, b, e, want)
		}
		if x, e := Read([]byte(want)); e != api.OK || !same(x, s) {
			t.Errorf("Read(%q) = %v, %d", want, x, e)
		}
	}
}

// P7.1, P7.2: setups with ordinary, with the least, and with the greatest numbers and lists.
func TestBases(t *testing.T) {
	for i, s := range bases() {
		good(t, strconv.Itoa(i), s)
	}
}

// P7.1: a setup without anything may not be; nor one whose lists are there, but empty.
func TestNothing(t *testing.T) {
	bad(t, "nothing", api.Setup{})
	bad(t, "empty lists", api.Setup{Ways: []api.Way{}, Elements: []api.Element{}, Classes: []api.Ratio{}, Gears: []api.Ratio{}, Rates: []int{}, Tiers: []api.Tier{}})
}

// bound is a number of a setup, and from what to what it may be.
type bound struct {
	name        string
	at          func(s *api.Setup) *int
	least, most int
}

// bounds are those of all numbers that do not hang on others, but of ratios.
func bounds() []bound {
	return []bound{
		{"Places", func(s *api.Setup) *int { return &s.Places }, 1, 16},
		{"Allow", func(s *api.Setup) *int { return &s.Allow }, 0, 100},
		{"Unit", func(s *api.Setup) *int { return &s.Unit }, 1, 3600},
		{"Cap", func(s *api.Setup) *int { return &s.Cap }, 60, 57600},
		{"PaidBreak", func(s *api.Setup) *int { return &s.PaidBreak }, 0, 86400},
		{"AutoAfter", func(s *api.Setup) *int { return &s.AutoAfter }, 0, 86400},
		{"AutoBreak", func(s *api.Setup) *int { return &s.AutoBreak }, 0, 86400},
		{"DayReg", func(s *api.Setup) *int { s.DayOver = 86400; return &s.DayReg }, 0, 86400},
		{"DayOver", func(s *api.Setup) *int { s.DayReg = 0; return &s.DayOver }, 0, 86400},
		{"WeekReg", func(s *api.Setup) *int { return &s.WeekReg }, 0, 604800},
		{"NightFrom", func(s *api.Setup) *int { return &s.NightFrom }, 0, 86400},
		{"NightTo", func(s *api.Setup) *int { return &s.NightTo }, 0, 86400},
		{"Diff", func(s *api.Setup) *int { return &s.Diff }, 0, 100000},
		{"Least", func(s *api.Setup) *int { return &s.Least }, 0, 100000},
		{"Fault", func(s *api.Setup) *int { return &s.Fault }, 0, 86400},
		{"first Meters", func(s *api.Setup) *int { return &s.Ways[0].Meters }, 1, 10000},
		{"last Meters", func(s *api.Setup) *int { return &s.Ways[len(s.Ways)-1].Meters }, 1, 10000},
		{"first A", func(s *api.Setup) *int { s.Ways[0].B = s.Places - 1; return &s.Ways[0].A }, 0, 3},
		{"last A", func(s *api.Setup) *int { s.Ways[len(s.Ways)-1].B = 0; return &s.Ways[len(s.Ways)-1].A }, 1, 4},
		{"first B", func(s *api.Setup) *int { s.Ways[0].A = s.Places - 1; return &s.Ways[0].B }, 0, 3},
		{"last B", func(s *api.Setup) *int { s.Ways[len(s.Ways)-1].A = 0; return &s.Ways[len(s.Ways)-1].B }, 1, 4},
		{"first Rate", func(s *api.Setup) *int { return &s.Rates[0] }, 0, 100000},
		{"last Rate", func(s *api.Setup) *int { return &s.Rates[len(s.Rates)-1] }, 0, 100000},
		{"first Bonus", func(s *api.Setup) *int { return &s.Tiers[0].Bonus }, 0, 100000},
		{"last Bonus", func(s *api.Setup) *int { return &s.Tiers[len(s.Tiers)-1].Bonus }, 0, 100000},
		{"first tier's Least", func(s *api.Setup) *int { return &s.Tiers[0].Least }, 0, 99},
		{"middle tier's Least", func(s *api.Setup) *int { return &s.Tiers[1].Least }, 4, 100},
		{"last tier's Least", func(s *api.Setup) *int { return &s.Tiers[2].Least }, 101, 1000},
	}
}

// P7.1, P7.2: each number at its least and greatest value, and on either side of them, up to the greatest of all.
func TestBounds(t *testing.T) {
	for _, c := range bounds() {
		with := func(n int) api.Setup {
			s := whole()
			if c.name == "Places" {
				s.Ways = nil
			}
			*c.at(&s) = n
			return s
		}
		for _, n := range []int{c.least, c.least + 1, (c.least + c.most) / 2, c.most - 1, c.most} {
			good(t, c.name, with(n))
		}
		for _, n := range []int{c.least - 1, c.least - 2, c.most + 1, c.most + 2, -1, -c.most - 1, 2*c.most + 1000, 1 << 31, 1 << 32, 1<<32 + c.least, 1<<62 + c.least, math.MaxInt, math.MinInt, math.MinInt + 1} {
			bad(t, c.name, with(n))
		}
	}
}

// spots are the ratios of a setup with all lists.
func spots(s *api.Setup) map[string]*api.Ratio {
	l := map[string]*api.Ratio{"Pace": &s.Pace}
	for i := range s.Elements {
		l["Fixed "+strconv.Itoa(i)], l["Unit "+strconv.Itoa(i)] = &s.Elements[i].Fixed, &s.Elements[i].Unit
	}
	for i := range s.Classes {
		l["class "+strconv.Itoa(i)] = &s.Classes[i]
	}
	for i := range s.Gears {
		l["gear "+strconv.Itoa(i)] = &s.Gears[i]
	}
	return l
}

// ratios are those at the edges of what may be, on both sides of them.
func ratios() []api.Ratio {
	parts := []int{0, 1, 2, 3, 4, 6, 1<<31 - 2, 1<<31 - 1, 1 << 31, 1<<31 + 1, 1 << 32, 1<<32 + 1, math.MaxInt, -1, -2, -3, -1<<31 + 1, -1 << 31, math.MinInt + 1, math.MinInt}
	var l []api.Ratio
	for _, n := range parts {
		for _, d := range parts {
			l = append(l, frac(n, d))
		}
	}
	return l
}

// P7.1, P7.2: ratios in lowest terms and not, without a Den, below 0, and too great, wherever one stands.
func TestRatios(t *testing.T) {
	mold := whole()
	for name := range spots(&mold) {
		for _, r := range ratios() {
			s := whole()
			*spots(&s)[name] = r
			if shares(r) {
				good(t, name, s)
			} else {
				bad(t, name, s)
			}
		}
	}
}

// lists set a setup's list to n elements, each of which may be.
func lists() map[string]func(s *api.Setup, n int) {
	return map[string]func(s *api.Setup, n int){
		"Ways":     func(s *api.Setup, n int) { s.Ways = repeated(api.Way{A: 1, B: 0, Meters: 1}, n) },
		"Elements": func(s *api.Setup, n int) { s.Elements = repeated(api.Element{Fixed: frac(1, 2), Unit: frac(0, 1)}, n) },
		"Classes":  func(s *api.Setup, n int) { s.Classes = repeated(frac(1, 2), n) },
		"Gears":    func(s *api.Setup, n int) { s.Gears = repeated(frac(3, 2), n) },
		"Rates":    func(s *api.Setup, n int) { s.Rates = repeated(5, n) },
		"Tiers":    func(s *api.Setup, n int) { s.Tiers = stairs(n, n) },
	}
}

// mosts is how many elements each list may have.
func mosts() map[string]int {
	return map[string]int{"Ways": 64, "Elements": 8, "Classes": 8, "Gears": 8, "Rates": 16, "Tiers": 8}
}

// P7.1, P7.2: lists without elements, of each length that may be, of one more, and of many more.
func TestLists(t *testing.T) {
	for name, set := range lists() {
		most := mosts()[name]
		for n := range most + 1 {
			s := whole()
			set(&s, n)
			if n == 0 && name == "Rates" {
				bad(t, name, s)
			} else {
				good(t, name+" "+strconv.Itoa(n), s)
			}
		}
		for _, n := range []int{most + 1, most + 2, 2 * most, 17, 63, 65, 66, 100, 256, most + 256, 1000} {
			s := whole()
			if set(&s, n); n > most {
				bad(t, name+" "+strconv.Itoa(n), s)
			}
		}
	}
}

// P7.1: lists that are long beyond all: they are not gone through number by number more than is needed.
func TestLongLists(t *testing.T) {
	for name, set := range lists() {
		s := whole()
		set(&s, 1<<20)
		if b, e := Write(s); Check(s) || len(b) != 0 || e != api.ErrSetup {
			t.Errorf("%s: %d", name, e)
		}
	}
}

// P7.1: one element that may not be, wherever it stands in a list, and however long that is.
func TestOneElement(t *testing.T) {
	for name, most := range mosts() {
		for i := range most {
			s := highest()
			switch name {
			case "Ways":
				s.Ways[i].B = 15
			case "Elements":
				s.Elements[i].Unit.Num = 0
			case "Classes":
				s.Classes[i].Den = 0
			case "Gears":
				s.Gears[i].Num = -1
			case "Rates":
				s.Rates[i] = 100001
			case "Tiers":
				s.Tiers[i].Bonus = 100001
			}
			bad(t, name+" "+strconv.Itoa(i), s)
		}
	}
}

// P7.1: the ends of a way, at all places and beside them, of as many places as there may be.
func TestWayEnds(t *testing.T) {
	ends := []int{math.MinInt, -2, -1, 0, 1, 2, 3, 7, 8, 14, 15, 16, 17, 1 << 32, math.MaxInt}
	for places := 1; places <= 16; places++ {
		for _, a := range ends {
			for _, b := range ends {
				s := lowest()
				s.Places, s.Ways = places, []api.Way{{A: a, B: b, Meters: 1}}
				held(t, "way", s)
			}
		}
	}
}

// P7.1: ways may be the same, and go back.
func TestSameWays(t *testing.T) {
	s := lowest()
	s.Places, s.Ways = 2, []api.Way{{A: 0, B: 1, Meters: 4}, {A: 0, B: 1, Meters: 4}, {A: 1, B: 0, Meters: 5}, {A: 1, B: 0, Meters: 4}}
	good(t, "ways", s)
}

// P7.1: DayReg up to DayOver, and above it; no other number of a day hangs on another one.
func TestDays(t *testing.T) {
	days := []int{math.MinInt, -1, 0, 1, 2, 100, 86398, 86399, 86400, 86401, 604800, math.MaxInt}
	for _, reg := range days {
		for _, over := range days {
			s := whole()
			s.DayReg, s.DayOver = reg, over
			held(t, "day", s)
		}
	}
	for _, n := range []int{0, 1, 43200, 86400} {
		s := whole()
		s.NightFrom, s.NightTo, s.AutoAfter, s.AutoBreak, s.WeekReg = n, 86400-n, 86400-n, n, 7*n
		good(t, "night, and breaks", s)
	}
}

// P7.1: tiers that rise, are even, and fall, wherever in the list.
func TestTiers(t *testing.T) {
	leasts := []int{math.MinInt, -1, 0, 1, 2, 500, 999, 1000, 1001, math.MaxInt}
	for _, a := range leasts {
		for _, b := range leasts {
			for _, c := range leasts {
				s := lowest()
				s.Tiers = []api.Tier{{Least: a}, {Least: b}, {Least: c}}
				held(t, "tiers", s)
				s.Tiers = s.Tiers[:2]
				held(t, "tiers", s)
			}
		}
	}
	for i := 1; i < 8; i++ {
		s := highest()
		s.Tiers[i].Least = s.Tiers[i-1].Least
		bad(t, "even", s)
		s = highest()
		s.Tiers[i].Least, s.Tiers[i-1].Least = s.Tiers[i-1].Least, s.Tiers[i].Least
		bad(t, "falling", s)
	}
}

// P7.1: bonuses, and rates, need not rise.
func TestNeedNotRise(t *testing.T) {
	s := whole()
	s.Rates = []int{100000, 0, 5, 5, 0}
	s.Tiers = []api.Tier{{Least: 0, Bonus: 100000}, {Least: 1, Bonus: 0}, {Least: 1000, Bonus: 0}}
	good(t, "falling", s)
}

// chance is a number by a fixed chance: a small one, one about an edge, or any at all.
func chance(r *rand.Rand) int {
	edges := []int{0, 1, 2, 16, 60, 100, 1000, 3600, 10000, 57600, 86400, 100000, 604800, 1<<31 - 1, 1 << 32, math.MaxInt, math.MinInt}
	switch r.Intn(3) {
	case 0:
		return r.Intn(4)
	case 1:
		return edges[r.Intn(len(edges))] + r.Intn(3) - 1
	default:
		return int(r.Uint64())
	}
}

// filled is a list of up to most elements, each made anew.
func filled[T any](r *rand.Rand, most int, one func() T) []T {
	l := make([]T, r.Intn(most+1))
	for i := range l {
		l[i] = one()
	}
	return l
}

// handMade is a setup of any numbers, with lists of any length up to beyond what may be.
func handMade(r *rand.Rand) api.Setup {
	n := func() int { return chance(r) }
	part := func() api.Ratio { return frac(n(), n()) }
	return api.Setup{
		Places: n(), Ways: filled(r, 66, func() api.Way { return api.Way{A: n(), B: n(), Meters: n()} }), Pace: part(),
		Elements: filled(r, 10, func() api.Element { return api.Element{Fixed: part(), Unit: part()} }),
		Classes:  filled(r, 10, part), Gears: filled(r, 10, part), Allow: n(), Unit: n(), Cap: n(),
		PaidBreak: n(), AutoAfter: n(), AutoBreak: n(), DayReg: n(), DayOver: n(), WeekReg: n(), NightFrom: n(), NightTo: n(),
		Rates: filled(r, 18, n), Diff: n(), Least: n(), Fault: n(),
		Tiers: filled(r, 10, func() api.Tier { return api.Tier{Least: n(), Bonus: n()} }),
	}
}

// chosen is a setup that may be, by a fixed chance, with lists of each length that may be.
func chosen(r *rand.Rand) api.Setup {
	part := func() api.Ratio {
		exact := big.NewRat(int64(r.Intn(1<<(1+r.Intn(31)))), int64(1+r.Intn(1<<(1+r.Intn(30)))))
		return frac(int(exact.Num().Int64()), int(exact.Denom().Int64()))
	}
	day, rate := func() int { return r.Intn(86401) }, func() int { return r.Intn(100001) }
	s := api.Setup{
		Places: 1 + r.Intn(16), Pace: part(), Elements: filled(r, 8, func() api.Element { return api.Element{Fixed: part(), Unit: part()} }),
		Classes: filled(r, 8, part), Gears: filled(r, 8, part), Allow: r.Intn(101), Unit: 1 + r.Intn(3600), Cap: 60 + r.Intn(57541),
		PaidBreak: day(), AutoAfter: day(), AutoBreak: day(), DayOver: day(), WeekReg: r.Intn(604801), NightFrom: day(), NightTo: day(),
		Rates: append(filled(r, 15, rate), rate()), Diff: rate(), Least: rate(), Fault: day(),
	}
	s.DayReg = r.Intn(s.DayOver + 1)
	if s.Places > 1 {
		s.Ways = filled(r, 64, func() api.Way {
			a := r.Intn(s.Places)
			return api.Way{A: a, B: (a + 1 + r.Intn(s.Places-1)) % s.Places, Meters: 1 + r.Intn(10000)}
		})
	}
	least := -1
	s.Tiers = filled(r, 8, func() api.Tier {
		least += 1 + r.Intn(125)
		return api.Tier{Least: least, Bonus: rate()}
	})
	return s
}

// spoiled is a setup that may be with one number, and now and then one list, set to any.
func spoiled(r *rand.Rand) api.Setup {
	s := chosen(r)
	s.Ways, s.Rates = append(s.Ways, api.Way{A: 0, B: 1, Meters: 1}), append(s.Rates, 1)
	s.Tiers = stairs(3+r.Intn(7), 10+r.Intn(1000))
	l := bounds()
	*l[r.Intn(len(l))].at(&s) = chance(r)
	return s
}

// P7.1, P7.2, P7.3: hand-made setups of any numbers, setups that may be, and some with one wrong number.
func TestChance(t *testing.T) {
	r := rand.New(rand.NewSource(7))
	for range 3000 {
		held(t, "hand-made", handMade(r))
		good(t, "chosen", chosen(r))
		held(t, "spoiled", spoiled(r))
	}
}

// P7.2: no bytes at all.
func TestReadEmpty(t *testing.T) {
	none(t, "nil", nil)
	none(t, "empty", []byte{})
	none(t, "empty, with a setup in its spare room", said(whole())[:0])
}

// P7.2: a setup's bytes that are cut, at every place, ahead and behind.
func TestReadCut(t *testing.T) {
	for _, s := range bases() {
		b := said(s)
		for n := range b {
			none(t, "cut behind", b[:n])
			none(t, "cut behind, the rest not in spare room", bytes.Clone(b[:n]))
			if n > 0 {
				none(t, "cut ahead", b[n:])
			}
			readHeld(t, "a byte gone", slices.Delete(bytes.Clone(b), n, n+1))
		}
	}
}

// P7.2: a setup's bytes with a number, or any byte, or more, behind or ahead.
func TestReadMore(t *testing.T) {
	for _, s := range bases() {
		b := said(s)
		for x := range 256 {
			none(t, "a byte behind", append(bytes.Clone(b), byte(x)))
			none(t, "a byte ahead", append([]byte{byte(x)}, b...))
		}
		for _, n := range []int{0, 1, 255, 256, 86400, 1 << 31, math.MaxInt} {
			none(t, "a number behind", append(bytes.Clone(b), packed(n)...))
			none(t, "a number ahead", append(packed(n), b...))
		}
		none(t, "twice", append(bytes.Clone(b), b...))
		none(t, "bytes behind", append(bytes.Clone(b), make([]byte, 1000)...))
	}
}

// P7.2: numbers whose bytes are not as few as hold them, each in turn, and bytes that are no number.
func TestReadNoNumber(t *testing.T) {
	for _, s := range bases() {
		l := told(s)
		for i, n := range l {
			ahead, behind, own := packed(l[:i]...), packed(l[i+1:]...), packed(n)
			for zeros := 1; zeros+int(own[0]) <= 9; zeros++ {
				long := slices.Concat([]byte{own[0] + byte(zeros)}, make([]byte, zeros), own[1:])
				none(t, "too long", slices.Concat(ahead, long, behind))
			}
			for _, x := range [][]byte{{9}, {255}, {8, 128, 0, 0, 0, 0, 0, 0, 0}, {8, 255, 255, 255, 255, 255, 255, 255, byte(n)}, {}} {
				none(t, "no number", slices.Concat(ahead, x, behind))
			}
		}
	}
}

// P7.2: bytes that are numbers, one of them, each in turn, so great that no setup has it.
func TestReadGreat(t *testing.T) {
	for _, s := range bases() {
		l := told(s)
		for i := range l {
			for _, n := range []int{1 << 31, 1 << 32, 1<<32 + l[i], 1<<40 + l[i], 1<<62 + l[i], math.MaxInt} {
				other := slices.Clone(l)
				other[i] = n
				none(t, "great", packed(other...))
			}
		}
	}
}

// taken is the setup that numbers make, as the document says it, and whether they are just as many.
func taken(l []int) (api.Setup, bool) {
	ok := true
	next := func() int {
		if len(l) == 0 {
			ok = false
			return 0
		}
		n := l[0]
		l = l[1:]
		return n
	}
	part := func() api.Ratio { n := next(); return frac(n, next()) }
	var s api.Setup
	s.Places = next()
	for n := next(); n > 0 && ok; n-- {
		a, b := next(), next()
		s.Ways = append(s.Ways, api.Way{A: a, B: b, Meters: next()})
	}
	s.Pace = part()
	for n := next(); n > 0 && ok; n-- {
		fixed := part()
		s.Elements = append(s.Elements, api.Element{Fixed: fixed, Unit: part()})
	}
	for _, table := range []*[]api.Ratio{&s.Classes, &s.Gears} {
		for n := next(); n > 0 && ok; n-- {
			*table = append(*table, part())
		}
	}
	for _, n := range []*int{&s.Allow, &s.Unit, &s.Cap, &s.PaidBreak, &s.AutoAfter, &s.AutoBreak, &s.DayReg, &s.DayOver, &s.WeekReg, &s.NightFrom, &s.NightTo} {
		*n = next()
	}
	for n := next(); n > 0 && ok; n-- {
		s.Rates = append(s.Rates, next())
	}
	s.Diff, s.Least, s.Fault = next(), next(), next()
	for n := next(); n > 0 && ok; n-- {
		least := next()
		s.Tiers = append(s.Tiers, api.Tier{Least: least, Bonus: next()})
	}
	return s, ok && len(l) == 0
}

// unpacked is the numbers that bytes are, as chapter 5 says it, and whether they are such.
func unpacked(b []byte) ([]int, bool) {
	var l []int
	for len(b) > 0 {
		size := 1 + int(b[0])
		if size > 9 || size > len(b) {
			return nil, false
		}
		n := new(big.Int).SetBytes(b[1:size])
		if !n.IsInt64() || !bytes.Equal(packed(int(n.Int64())), b[:size]) {
			return nil, false
		}
		l, b = append(l, int(n.Int64())), b[size:]
	}
	return l, true
}

// readHeld holds Read against what the document says of bytes.
func readHeld(t *testing.T, name string, b []byte) {
	t.Helper()
	l, ok := unpacked(b)
	s, just := taken(l)
	if !ok || !just || !may(s) {
		none(t, name, b)
		return
	}
	if x, e := Read(b); e != api.OK || !same(x, s) {
		t.Fatalf("%s: Read(%v) = %v, %d, want %v", name, b, x, e, s)
	}
	if own, e := Write(s); e != api.OK || !bytes.Equal(own, b) {
		t.Fatalf("%s: Write(%v) = %v, %d, want %v", name, s, own, e, b)
	}
}

// P7.2: a setup's bytes with each byte set to each other one.
func TestReadEachByte(t *testing.T) {
	for _, s := range []api.Setup{whole(), lowest()} {
		for i := range said(s) {
			for x := range 256 {
				b := said(s)
				b[i] = byte(x)
				readHeld(t, "a byte changed", b)
			}
		}
	}
}

// P7.2: a setup's numbers with each of them one less, one more, gone, twice, and by any other.
func TestReadEachNumber(t *testing.T) {
	r := rand.New(rand.NewSource(72))
	for _, s := range bases() {
		l := told(s)
		for i, n := range l {
			ahead, behind := l[:i], l[i+1:]
			for _, x := range [][]int{{max(n, 1) - 1}, {n + 1}, {}, {n, n}, {0}, {r.Intn(100)}, {chance(r) & math.MaxInt}} {
				readHeld(t, "a number changed", packed(slices.Concat(ahead, x, behind)...))
			}
		}
	}
}

// P7.2: setups' bytes by a fixed chance: whole, with bytes changed, and numbers moved.
func TestReadChance(t *testing.T) {
	r := rand.New(rand.NewSource(73))
	for range 2000 {
		l := told(chosen(r))
		i, k := r.Intn(len(l)), r.Intn(len(l))
		l[i], l[k] = l[k], l[i]
		readHeld(t, "numbers swapped", packed(l...))
		b := said(chosen(r))
		for range r.Intn(3) {
			b[r.Intn(len(b))] = byte(r.Intn(256))
		}
		readHeld(t, "bytes changed", b)
		for i := range b[:r.Intn(len(b))] {
			b[i] = byte(r.Intn(10))
		}
		readHeld(t, "any bytes", b)
	}
}

// sizes is where the sizes of a setup's lists stand among its numbers.
func sizes(s api.Setup) map[string]int {
	ways := 1
	elements := ways + 1 + 3*len(s.Ways) + 2
	classes := elements + 1 + 4*len(s.Elements)
	gears := classes + 1 + 2*len(s.Classes)
	rates := gears + 1 + 2*len(s.Gears) + 11
	tiers := rates + 1 + len(s.Rates) + 3
	return map[string]int{"Ways": ways, "Elements": elements, "Classes": classes, "Gears": gears, "Rates": rates, "Tiers": tiers}
}

// P7.2: lists that tell another size than they have, up to far more than there are bytes.
func TestReadSizes(t *testing.T) {
	for _, s := range bases() {
		for name, at := range sizes(s) {
			for i := range 63 {
				for _, n := range []int{1<<i - 1, 1 << i, 1<<i + 1, mosts()[name] + i, 64 + i} {
					l := told(s)
					l[at] = n
					readHeld(t, name, packed(l...))
					readHeld(t, name+", and no more", packed(l[:at+1]...))
				}
			}
			l := told(s)
			l[at] = math.MaxInt
			none(t, name, packed(l...))
		}
	}
}

// room is how many bytes of memory a call takes.
func room(call func()) uint64 {
	var ahead, behind runtime.MemStats
	runtime.ReadMemStats(&ahead)
	call()
	runtime.ReadMemStats(&behind)
	return behind.TotalAlloc - ahead.TotalAlloc
}

// P7.2: neither a list that tells a great size, nor bytes that are long, take much room.
func TestReadRoom(t *testing.T) {
	const enough = 1 << 20
	for _, s := range bases() {
		for name, at := range sizes(s) {
			for _, n := range []int{65, 1 << 16, 1 << 24, 1 << 31, math.MaxInt} {
				l := told(s)
				l[at] = n
				b := packed(l...)
				b = append(b, make([]byte, 1<<22)...)
				if n := room(func() { none(t, name, b) }); n > enough {
					t.Errorf("%s: %d bytes of room", name, n)
				}
			}
		}
		long := append(said(s), make([]byte, 1<<24)...)
		if n := room(func() { none(t, "long", long) }); n > enough {
			t.Errorf("long: %d bytes of room", n)
		}
	}
}

// P7.3: setups that differ in one number, or in how their numbers are parted into lists, have unlike bytes.
func TestUnlike(t *testing.T) {
	seen := map[string]api.Setup{}
	add := func(s api.Setup) {
		b, e := Write(s)
		if x, there := seen[string(b)]; e != api.OK || there && !same(x, s) {
			t.Fatalf("%v and %v: %v, %d", x, s, b, e)
		}
		seen[string(b)] = s
	}
	for _, s := range bases() {
		add(s)
	}
	for _, c := range bounds() {
		for _, n := range []int{c.least, c.least + 1, c.most - 1, c.most} {
			s := whole()
			if c.name == "Places" {
				s.Ways = nil
			}
			*c.at(&s) = n
			add(s)
		}
	}
	for name, set := range lists() {
		for n := 1; n <= mosts()[name]; n++ {
			s := whole()
			set(&s, n)
			add(s)
		}
	}
	for n := range 9 {
		s := whole()
		s.Classes, s.Gears = repeated(frac(1, 1), n), repeated(frac(1, 1), 8-n)
		add(s)
	}
	if len(seen) < 150 {
		t.Error(len(seen))
	}
}

// P7.3: all setups that may be, of some numbers each, are read as they were written.
func TestReadAsWritten(t *testing.T) {
	r := rand.New(rand.NewSource(74))
	seen := map[string]api.Setup{}
	for range 3000 {
		s := chosen(r)
		b, e := Write(s)
		x, e2 := Read(b)
		if e != api.OK || e2 != api.OK || !same(x, s) {
			t.Fatalf("%v: %d, %v, %d", s, e, x, e2)
		}
		if other, there := seen[string(b)]; there && !same(other, s) {
			t.Fatalf("%v, %v", s, other)
		}
		seen[string(b)] = s
	}
}

// roomy is a setup whose lists have spare room, filled with what is no element.
func roomy(s api.Setup) api.Setup {
	wide := func(r []api.Ratio) []api.Ratio { return append(slices.Clone(r), repeated(frac(-7, -7), 3)...)[:len(r)] }
	s.Ways = append(slices.Clone(s.Ways), repeated(api.Way{A: -7}, 3)...)[:len(s.Ways)]
	s.Elements = append(slices.Clone(s.Elements), repeated(api.Element{Fixed: frac(-7, -7)}, 3)...)[:len(s.Elements)]
	s.Classes, s.Gears = wide(s.Classes), wide(s.Gears)
	s.Rates = append(slices.Clone(s.Rates), repeated(-7, 3)...)[:len(s.Rates)]
	s.Tiers = append(slices.Clone(s.Tiers), repeated(api.Tier{Least: -7}, 3)...)[:len(s.Tiers)]
	return s
}

// spread is a setup with its lists' spare room taken as elements.
func spread(s api.Setup) api.Setup {
	s.Ways, s.Elements = s.Ways[:cap(s.Ways)], s.Elements[:cap(s.Elements)]
	s.Classes, s.Gears = s.Classes[:cap(s.Classes)], s.Gears[:cap(s.Gears)]
	s.Rates, s.Tiers = s.Rates[:cap(s.Rates)], s.Tiers[:cap(s.Tiers)]
	return s
}

// P7.1, P7.2: what is handed in stays as it was, its spare room too, and that tells nothing.
func TestHandedIn(t *testing.T) {
	for _, mold := range bases() {
		s := roomy(mold)
		was := clone(spread(s))
		good(t, "roomy", s)
		if !same(spread(s), was) {
			t.Errorf("%v was changed", mold)
		}
		s.Cap = 59
		bad(t, "roomy", s)
		if s.Cap = mold.Cap; !same(spread(s), was) {
			t.Errorf("%v was changed, with an error", mold)
		}
		for _, behind := range [][]byte{nil, {0}, {1}, {9}} {
			b := slices.Concat(said(mold), behind, []byte("spare"))
			kept := bytes.Clone(b)
			_, _ = Read(b[:len(b)-5])
			if !bytes.Equal(b, kept) {
				t.Errorf("bytes of %v were changed", mold)
			}
		}
	}
}

// P7.1, P7.2: lists without elements are the same, nil or not.
func TestNilLists(t *testing.T) {
	s := lowest()
	want, _ := Write(s)
	s.Ways, s.Elements, s.Classes, s.Gears, s.Tiers = []api.Way{}, []api.Element{}, []api.Ratio{}, []api.Ratio{}, []api.Tier{}
	if b, e := Write(s); e != api.OK || !bytes.Equal(b, want) {
		t.Errorf("%v, %d, want %v", b, e, want)
	}
	good(t, "empty", s)
	good(t, "empty, with spare room", roomy(s))
}

// wipes change all elements of one list, its spare room included.
func wipes() map[string]func(s *api.Setup) {
	return map[string]func(s *api.Setup){
		"Ways":     func(s *api.Setup) { clear(s.Ways[:cap(s.Ways)]) },
		"Elements": func(s *api.Setup) { clear(s.Elements[:cap(s.Elements)]) },
		"Classes":  func(s *api.Setup) { clear(s.Classes[:cap(s.Classes)]) },
		"Gears":    func(s *api.Setup) { clear(s.Gears[:cap(s.Gears)]) },
		"Rates":    func(s *api.Setup) { clear(s.Rates[:cap(s.Rates)]) },
		"Tiers":    func(s *api.Setup) { clear(s.Tiers[:cap(s.Tiers)]) },
	}
}

// P7.2: what is read is in memory of its own: no two lists share any, nor two answers, nor the bytes.
func TestReadOwnMemory(t *testing.T) {
	for _, mold := range bases() {
		b := said(mold)
		other, _ := Read(b)
		for name, wipe := range wipes() {
			s, _ := Read(b)
			want := clone(s)
			wipe(&s)
			wipe(&want)
			if !same(s, want) || !same(other, mold) || !bytes.Equal(b, said(mold)) {
				t.Errorf("%s: shared: %v, %v", name, s, other)
			}
		}
		s, _ := Read(b)
		clear(b)
		if !same(s, mold) {
			t.Errorf("%v shares the bytes", s)
		}
	}
}

// P7.1: what is written is in memory of its own.
func TestWriteOwnMemory(t *testing.T) {
	for _, s := range bases() {
		a, _ := Write(s)
		b, _ := Write(s)
		clear(a[:cap(a)])
		if !bytes.Equal(b, said(s)) {
			t.Errorf("%v: shared", s)
		}
		good(t, "again", s)
	}
}
