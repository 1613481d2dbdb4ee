package span

import (
	"math"
	"math/rand"
	"slices"
	"sort"
	"testing"

	"lumper/api"
)

const (
	end      = api.MaxTime
	least    = math.MinInt
	greatest = math.MaxInt
)

// of is spans, from and to by turns.
func of(l ...int) []api.Span {
	var out []api.Span
	for i := 0; i+1 < len(l); i += 2 {
		out = append(out, api.Span{From: l[i], To: l[i+1]})
	}
	return out
}

// edges are numbers about both ends of all seconds, and of all numbers.
func edges() []int {
	return []int{least, least + 1, -1 << 50, -2, -1, 0, 1, 2, 3, end - 2, end - 1, end, end + 1, 1 << 50, greatest - 1, greatest}
}

// member is what the document says of a second of a set.
func member(l []api.Span, t int) bool {
	if t < 0 || t >= end {
		return false
	}
	for _, s := range l {
		if s.From <= t && t < s.To {
			return true
		}
	}
	return false
}

// isPlain is what the document says of plain spans.
func isPlain(l []api.Span) bool {
	for i, s := range l {
		if s.From < 0 || s.From >= s.To || s.To > end || i > 0 && l[i-1].To >= s.From {
			return false
		}
	}
	return true
}

// turns are the seconds, rising, at which a set of the lists may begin or end, with both ends of all time.
func turns(lists ...[]api.Span) []int {
	l := []int{0, end}
	for _, spans := range lists {
		for _, s := range spans {
			for _, t := range []int{s.From, s.To} {
				if t > 0 && t < end {
					l = append(l, t)
				}
			}
		}
	}
	sort.Ints(l)
	return slices.Compact(l)
}

// spansOf is the plain spans of the seconds that are told, asked once between each two turns.
func spansOf(turns []int, told func(t int) bool) []api.Span {
	var l []api.Span
	for i := 0; i+1 < len(turns); i++ {
		if !told(turns[i]) {
			continue
		}
		if n := len(l); n > 0 && l[n-1].To == turns[i] {
			l[n-1].To = turns[i+1]
		} else {
			l = append(l, api.Span{From: turns[i], To: turns[i+1]})
		}
	}
	return l
}

// count is how many seconds of the set are at from or behind it, and below to.
func count(l []api.Span, from, to int) int {
	n := 0
	all := turns(l)
	for i := 0; i+1 < len(all); i++ {
		if member(l, all[i]) {
			n += max(0, min(to, all[i+1])-max(from, all[i]))
		}
	}
	return n
}

// firstOf cuts the set at the least second below which there are n.
func firstOf(l []api.Span, n int) []api.Span {
	if n < 1 {
		return nil
	}
	cut := sort.Search(end, func(t int) bool { return count(l, 0, t) >= n })
	return spansOf(turns(l, of(cut, cut)), func(t int) bool { return t < cut && member(l, t) })
}

// lastOf cuts the set at the greatest second from which on there are n.
func lastOf(l []api.Span, n int) []api.Span {
	if n < 1 {
		return nil
	}
	cut := end - sort.Search(end, func(back int) bool { return count(l, end-back, end) >= n })
	return spansOf(turns(l, of(cut, cut)), func(t int) bool { return t >= cut && member(l, t) })
}

// some is a list by chance, of few spans that lie close, so that they touch, overlap, and lie within others.
func some(r *rand.Rand) []api.Span {
	bound := func() int {
		switch r.Intn(8) {
		case 0:
			return edges()[r.Intn(len(edges()))]
		case 1:
			return end - r.Intn(20) + 5
		}
		return r.Intn(30) - 5
	}
	var l []api.Span
	for range r.Intn(7) {
		l = append(l, api.Span{From: bound(), To: bound()})
	}
	return l
}

// wide are lists of one span each, of all edges.
func wide() [][]api.Span {
	var l [][]api.Span
	for _, from := range edges() {
		for _, to := range edges() {
			l = append(l, of(from, to))
		}
	}
	return l
}

// P3.1: Norm at the edges that the document names.
func TestNorm(t *testing.T) {
	for _, c := range []struct {
		name    string
		l, want []api.Span
	}{
		{"none", nil, nil},
		{"the document's", of(5, 9, 1, 5, 20, 20), of(1, 9)},
		{"one second", of(7, 8), of(7, 8)},
		{"without seconds", of(3, 3, 5, 2, 0, 0, end, end, greatest, least), nil},
		{"one without seconds within a gap joins nothing", of(1, 3, 4, 4, 5, 7), of(1, 3, 5, 7)},
		{"one turned round joins nothing", of(1, 3, 6, 2, 5, 7), of(1, 3, 5, 7)},
		{"touching", of(1, 5, 5, 9), of(1, 9)},
		{"touching, the later one ahead", of(5, 9, 1, 5), of(1, 9)},
		{"one second between", of(1, 5, 6, 9), of(1, 5, 6, 9)},
		{"overlapping", of(4, 9, 1, 5), of(1, 9)},
		{"within, with the same first", of(1, 3, 1, 9), of(1, 9)},
		{"within, with the same first, the long one ahead", of(1, 9, 1, 3), of(1, 9)},
		{"within, and going on behind", of(1, 9, 2, 3, 8, 11), of(1, 11)},
		{"within, with the same last", of(5, 9, 1, 9), of(1, 9)},
		{"twice", of(1, 9, 1, 9), of(1, 9)},
		{"many, in no order", of(30, 31, 2, 4, 20, 25, 4, 6, 22, 29, 0, 1), of(0, 1, 2, 6, 20, 29, 30, 31)},
		{"from below 0", of(-7, 2), of(0, 2)},
		{"below 0 alone", of(-9, 0, -9, -3), nil},
		{"up to above all time", of(end-1, 1<<50), of(end-1, end)},
		{"above all time alone", of(end, end+5, end+1, greatest), nil},
		{"cut ones touch", of(-9, 1, -3, 1, 1, 2), of(0, 2)},
		{"all numbers", of(least, greatest), of(0, end)},
		{"the whole of time", of(0, end), of(0, end)},
		{"both ends", of(end-1, end, 0, 1), of(0, 1, end-1, end)},
	} {
		if got := Norm(c.l...); !slices.Equal(got, c.want) {
			t.Errorf("%s: %v is %v, not %v", c.name, c.l, got, c.want)
		}
	}
}

// P3.1: And, and Minus, at the edges that the document names.
func TestTwo(t *testing.T) {
	for _, c := range []struct {
		name             string
		a, b, and, minus []api.Span
	}{
		{"none", nil, nil, nil, nil},
		{"none less some", nil, of(1, 5), nil, nil},
		{"some less none", of(3, 5, 1, 3), nil, nil, of(1, 5)},
		{"without seconds on one side", of(1, 5), of(3, 3, 4, 2), nil, of(1, 5)},
		{"without seconds on the other side", of(3, 3, 4, 2), of(1, 5), nil, nil},
		{"the same", of(1, 5), of(1, 5), of(1, 5), nil},
		{"apart", of(1, 5), of(7, 9), nil, of(1, 5)},
		{"touching", of(1, 5), of(5, 9), nil, of(1, 5)},
		{"touching, from behind", of(5, 9), of(1, 5), nil, of(5, 9)},
		{"the last second", of(1, 5), of(4, 9), of(4, 5), of(1, 4)},
		{"the first second", of(4, 9), of(1, 5), of(4, 5), of(5, 9)},
		{"within", of(1, 9), of(4, 5), of(4, 5), of(1, 4, 5, 9)},
		{"about", of(4, 5), of(1, 9), of(4, 5), nil},
		{"with the same first", of(1, 9), of(1, 4), of(1, 4), of(4, 9)},
		{"with the same last", of(1, 9), of(4, 9), of(4, 9), of(1, 4)},
		{"one about many", of(0, 30), of(2, 4, 6, 8, 10, 12), of(2, 4, 6, 8, 10, 12), of(0, 2, 4, 6, 8, 10, 12, 30)},
		{"many about one", of(2, 4, 6, 8, 10, 12), of(3, 11), of(3, 4, 6, 8, 10, 11), of(2, 3, 11, 12)},
		{"by turns", of(1, 5, 10, 20), of(4, 12, 15, 16), of(4, 5, 10, 12, 15, 16), of(1, 4, 12, 15, 16, 20)},
		{"neither is plain", of(10, 20, 1, 3, 2, 5, 9, 9), of(15, 16, 8, 12, 4, 8), of(4, 5, 10, 12, 15, 16), of(1, 4, 12, 15, 16, 20)},
		{"from below 0", of(-5, 7), of(-3, 2), of(0, 2), of(2, 7)},
		{"up to above all time", of(end-5, end+9), of(end-2, end+3), of(end-2, end), of(end-5, end-2)},
		{"all numbers less all numbers", of(least, greatest), of(least, greatest), of(0, end), nil},
		{"all numbers less both ends", of(least, greatest), of(least, 1, end-1, greatest), of(0, 1, end-1, end), of(1, end-1)},
		{"both ends less all but them", of(0, 1, end-1, end), of(1, end-1), nil, of(0, 1, end-1, end)},
	} {
		if got := And(c.a, c.b); !slices.Equal(got, c.and) {
			t.Errorf("%s: And(%v, %v) is %v, not %v", c.name, c.a, c.b, got, c.and)
		}
		if got := Minus(c.a, c.b); !slices.Equal(got, c.minus) {
			t.Errorf("%s: Minus(%v, %v) is %v, not %v", c.name, c.a, c.b, got, c.minus)
		}
	}
}

// P3.2: Size, and Has, at the edges that the document names.
func TestSizeHas(t *testing.T) {
	for _, c := range []struct {
		name    string
		l       []api.Span
		size    int
		in, not []int
	}{
		{"none", nil, 0, nil, edges()},
		{"without seconds", of(3, 3, 5, 2, greatest, least), 0, nil, []int{1, 2, 3, 4, 5, least, greatest}},
		{"one", of(3, 5), 2, []int{3, 4}, []int{0, 2, 5, 6, -3, -4}},
		{"one second", of(3, 4), 1, []int{3}, []int{2, 4}},
		{"once each", of(10, 20, 1, 4, 3, 5, 1, 4), 14, []int{1, 3, 4, 10, 19}, []int{0, 5, 9, 20, -1}},
		{"touching", of(5, 9, 1, 5), 8, []int{1, 4, 5, 8}, []int{0, 9}},
		{"from below 0", of(-7, 2), 2, []int{0, 1}, []int{-7, -1, 2, least}},
		{"below 0 alone", of(-9, 0), 0, nil, []int{-9, -1, 0}},
		{"up to above all time", of(end-1, end+9), 1, []int{end - 1}, []int{end - 2, end, end + 8, greatest}},
		{"above all time alone", of(end, greatest), 0, nil, []int{end - 1, end, end + 1, greatest - 1}},
		{"all numbers", of(least, greatest), end, []int{0, 1, end - 1}, []int{least, -1, end, greatest - 1, greatest}},
		{"all numbers, twice", of(least, greatest, least, greatest), end, []int{0, end - 1}, []int{least, greatest}},
	} {
		if got := Size(c.l); got != c.size {
			t.Errorf("%s: Size(%v) is %d, not %d", c.name, c.l, got, c.size)
		}
		for _, s := range c.in {
			if !Has(c.l, s) {
				t.Errorf("%s: %v has no %d", c.name, c.l, s)
			}
		}
		for _, s := range c.not {
			if Has(c.l, s) {
				t.Errorf("%s: %v has %d", c.name, c.l, s)
			}
		}
	}
}

// P3.3: First, and Last, at the edges that the document names.
func TestFirstLast(t *testing.T) {
	l := of(10, 20, 1, 4, 30, 30, 3, 5)
	whole := of(1, 5, 10, 20)
	for _, c := range []struct {
		name        string
		l           []api.Span
		n           int
		first, last []api.Span
	}{
		{"none of none", nil, 0, nil, nil},
		{"some of none", nil, 5, nil, nil},
		{"all of none", nil, greatest, nil, nil},
		{"below 0 of none", nil, least, nil, nil},
		{"some of spans without seconds", of(3, 3, 9, 2, -5, 0, end, end+1), 1, nil, nil},
		{"0", l, 0, nil, nil},
		{"below 0", l, -1, nil, nil},
		{"the least number", l, least, nil, nil},
		{"next to the least number", l, least + 1, nil, nil},
		{"1", l, 1, of(1, 2), of(19, 20)},
		{"one less than the first span", l, 3, of(1, 4), of(17, 20)},
		{"as many as the first span", l, 4, of(1, 5), of(16, 20)},
		{"one more than the first span", l, 5, of(1, 5, 10, 11), of(15, 20)},
		{"one less than the last span", l, 9, of(1, 5, 10, 15), of(11, 20)},
		{"as many as the last span", l, 10, of(1, 5, 10, 16), of(10, 20)},
		{"one more than the last span", l, 11, of(1, 5, 10, 17), of(4, 5, 10, 20)},
		{"one less than all", l, 13, of(1, 5, 10, 19), of(2, 5, 10, 20)},
		{"just as many", l, 14, whole, whole},
		{"one more", l, 15, whole, whole},
		{"the greatest number", l, greatest, whole, whole},
		{"of all numbers, 1", of(least, greatest), 1, of(0, 1), of(end-1, end)},
		{"of all numbers, all", of(least, greatest), end, of(0, end), of(0, end)},
		{"of all numbers, all but 1", of(least, greatest), end - 1, of(0, end-1), of(1, end)},
		{"of all numbers, the greatest", of(least, greatest), greatest, of(0, end), of(0, end)},
		{"seconds that are none do not count", of(-5, 2, end-2, end+5), 3, of(0, 2, end-2, end-1), of(1, 2, end-2, end)},
	} {
		if got := First(c.l, c.n); !slices.Equal(got, c.first) {
			t.Errorf("%s: First(%v, %d) is %v, not %v", c.name, c.l, c.n, got, c.first)
		}
		if got := Last(c.l, c.n); !slices.Equal(got, c.last) {
			t.Errorf("%s: Last(%v, %d) is %v, not %v", c.name, c.l, c.n, got, c.last)
		}
	}
}

// checkTwo holds Norm, And and Minus of two lists against what the document says of each second (P3.1).
func checkTwo(t *testing.T, a, b []api.Span) {
	t.Helper()
	all := turns(a, b)
	inA := func(s int) bool { return member(a, s) }
	inBoth := func(s int) bool { return member(a, s) && member(b, s) }
	inAOnly := func(s int) bool { return member(a, s) && !member(b, s) }
	inEither := func(s int) bool { return member(a, s) || member(b, s) }
	for _, c := range []struct {
		name string
		got  []api.Span
		told func(int) bool
	}{
		{"Norm of one", Norm(a...), inA},
		{"Norm of both", Norm(slices.Concat(b, a)...), inEither},
		{"And", And(a, b), inBoth},
		{"Minus", Minus(a, b), inAOnly},
	} {
		if want := spansOf(all, c.told); !slices.Equal(c.got, want) || !isPlain(c.got) {
			t.Fatalf("%s: %v, %v: %v, not %v", c.name, a, b, c.got, want)
		}
	}
}

// checkOne holds Size, Has, First and Last of a list against what the document says (P3.2, P3.3).
func checkOne(t *testing.T, l []api.Span) {
	t.Helper()
	size := count(l, 0, end)
	if got := Size(l); got != size {
		t.Fatalf("Size(%v) is %d, not %d", l, got, size)
	}
	for _, turn := range append(turns(l), edges()...) {
		for _, s := range []int{max(turn, least+1) - 1, turn} {
			if got := Has(l, s); got != member(l, s) {
				t.Fatalf("Has(%v, %d) is %v", l, s, got)
			}
		}
	}
	for _, n := range []int{least, -1, 0, 1, 2, 5, size / 2, size - 1, size, size + 1, greatest} {
		if got, want := First(l, n), firstOf(l, n); !slices.Equal(got, want) {
			t.Fatalf("First(%v, %d) is %v, not %v", l, n, got, want)
		}
		if got, want := Last(l, n), lastOf(l, n); !slices.Equal(got, want) {
			t.Fatalf("Last(%v, %d) is %v, not %v", l, n, got, want)
		}
	}
}

// P3.1: spans of all edges, each with each.
func TestEdgesTwo(t *testing.T) {
	l := wide()
	for _, a := range l {
		for _, b := range l {
			checkTwo(t, a, b)
		}
	}
}

// P3.2, P3.3: spans of all edges.
func TestEdgesOne(t *testing.T) {
	for _, l := range wide() {
		checkOne(t, l)
	}
}

// P3.1: every way in which two small spans, and a third one, can lie to one another.
func TestSmall(t *testing.T) {
	var spans []api.Span
	for from := range 6 {
		for to := range 6 {
			spans = append(spans, of(from-1, to)...)
		}
	}
	for _, a := range spans {
		for _, b := range spans {
			for _, c := range spans {
				checkTwo(t, []api.Span{a, b}, []api.Span{c})
				checkTwo(t, []api.Span{c}, []api.Span{a, b})
			}
		}
	}
}

// P3.1 to P3.3: lists of several spans.
func TestSome(t *testing.T) {
	r := rand.New(rand.NewSource(3))
	for range 5000 {
		checkTwo(t, some(r), some(r))
	}
	for range 300 {
		checkOne(t, some(r))
	}
}

// P3.4: what follows.
func TestFollows(t *testing.T) {
	r := rand.New(rand.NewSource(4))
	for range 5000 {
		a, b := some(r), some(r)
		plain := Norm(a...)
		if again := Norm(plain...); !slices.Equal(again, plain) {
			t.Fatalf("Norm of plain spans: %v, %v", plain, again)
		}
		// The same set, told otherwise: cut in two at a second, in another order, with nothing beside it.
		other := append(of(9, 9, 7, 3), slices.Clone(a)...)
		for _, s := range plain {
			at := s.From + (s.To-s.From)/2
			other = append(other, of(at, s.To, s.From, at)...)
		}
		slices.Reverse(other)
		if got := Norm(other...); !slices.Equal(got, plain) {
			t.Fatalf("two of one set: %v, %v: %v, %v", a, other, plain, got)
		}
		both, not := And(a, b), Minus(a, b)
		if got := Norm(append(slices.Clone(both), not...)...); !slices.Equal(got, plain) {
			t.Fatalf("both, and not: %v, %v: %v", both, not, got)
		}
		if Size(both)+Size(not) != Size(a) || len(And(both, not)) != 0 {
			t.Fatalf("each second once: %v, %v: %v, %v", a, b, both, not)
		}
		n := r.Intn(40)
		front, back := First(a, n), Last(a, Size(a)-n)
		if n <= Size(a) && !slices.Equal(Norm(append(front, back...)...), plain) {
			t.Fatalf("first, and last: %v, %d: %v, %v", a, n, front, back)
		}
	}
}

// roomy is the spans with spare room behind them, and all of that memory.
func roomy(l []api.Span) (list, all []api.Span) {
	all = make([]api.Span, len(l)+8)
	copy(all, l)
	for i := len(l); i < len(all); i++ {
		all[i] = api.Span{From: 7 * i, To: -i}
	}
	return all[:len(l)], all
}

// R3: what is handed in is neither changed nor kept, its spare room included; answers are in memory of their own.
func TestMemory(t *testing.T) {
	for _, l := range [][]api.Span{nil, of(3, 5), of(1, 9, 12, 15, 20, 28), of(20, 28, 12, 15, -4, 9, 8, 8, 1, 3)} {
		a, allA := roomy(l)
		b, allB := roomy(of(14, 22, 2, 4))
		for _, c := range []struct {
			name string
			call func() []api.Span
		}{
			{"Norm", func() []api.Span { return Norm(a...) }},
			{"And", func() []api.Span { return And(a, b) }},
			{"And, the other way", func() []api.Span { return And(b, a) }},
			{"And itself", func() []api.Span { return And(a, a) }},
			{"Minus", func() []api.Span { return Minus(a, b) }},
			{"Minus, the other way", func() []api.Span { return Minus(b, a) }},
			{"Minus none", func() []api.Span { return Minus(a, nil) }},
			{"First", func() []api.Span { return First(a, 6) }},
			{"First, all", func() []api.Span { return First(a, greatest) }},
			{"Last", func() []api.Span { return Last(a, 6) }},
			{"Last, all", func() []api.Span { return Last(a, greatest) }},
			{"Size", func() []api.Span { return of(Size(a), 0) }},
			{"Has", func() []api.Span { Has(a, 2); return nil }},
		} {
			wasA, wasB := slices.Clone(allA), slices.Clone(allB)
			one, two := c.call(), c.call()
			want := slices.Clone(two)
			// Whoever has an answer may change it, and all room behind it.
			for i := range one[:cap(one)] {
				one[:cap(one)][i] = api.Span{From: -99, To: 99}
			}
			if !slices.Equal(two, want) {
				t.Errorf("%s: two answers share memory: %v", c.name, l)
			}
			if !slices.Equal(allA, wasA) || !slices.Equal(allB, wasB) {
				t.Errorf("%s: what was handed in was changed: %v", c.name, l)
			}
			// And whoever handed a list in may change it.
			for i := range allA {
				allA[i] = api.Span{From: 3, To: 4}
			}
			if !slices.Equal(two, want) {
				t.Errorf("%s: what was handed in is kept: %v", c.name, l)
			}
			copy(allA, wasA)
		}
	}
}

// P3.1 to P3.3: as many spans as a long list may have, in a time that does not rise with its square.
func TestMany(t *testing.T) {
	const many = 200000
	var l, odd []api.Span
	for i := many - 1; i >= 0; i-- {
		l = append(l, of(4*i, 4*i+3)...)
		odd = append(odd, of(4*i+1, 4*i+2)...)
	}
	if got := Norm(l...); len(got) != many || !isPlain(got) || Size(l) != 3*many {
		t.Errorf("Norm: %d spans, of %d seconds", len(got), Size(l))
	}
	if got := And(l, odd); len(got) != many || !isPlain(got) || Size(got) != many {
		t.Errorf("And: %d spans, of %d seconds", len(got), Size(got))
	}
	if got := Minus(l, odd); len(got) != 2*many || !isPlain(got) || Size(got) != 2*many {
		t.Errorf("Minus: %d spans, of %d seconds", len(got), Size(got))
	}
	first, last := First(l, 3*many/2), Last(l, 3*many/2)
	if len(first) != many/2 || len(last) != many/2 || len(And(first, last)) != 0 {
		t.Errorf("First, Last: %d, %d spans", len(first), len(last))
	}
}

// P3.1: what is not there is plain too, and ends where its reader does.
func TestGaps(t *testing.T) {
	for _, c := range []struct{ plain, want []api.Span }{
		{nil, of(0, end)},
		{of(0, end), nil},
		{of(0, 3), of(3, end)},
		{of(5, end), of(0, 5)},
		{of(1, 4, 6, 9), of(0, 1, 4, 6, 9, end)},
	} {
		if got := slices.Collect(gaps(c.plain)); !slices.Equal(got, c.want) {
			t.Errorf("%v: %v, not %v", c.plain, got, c.want)
		}
		for gap := range gaps(c.plain) {
			if gap != c.want[0] {
				t.Errorf("%v: %v ahead", c.plain, gap)
			}
			break
		}
	}
}
