package ratio

import (
	"math"
	"math/big"
	"slices"
	"testing"

	"lumper/api"
)

const (
	most     = api.MaxPart
	least    = math.MinInt
	greatest = math.MaxInt
)

// of is a ratio as it stands, whether it may be or not.
func of(n, d int) api.Ratio { return api.Ratio{Num: n, Den: d} }

// numbers are small ones, ones about MaxPart, and ones about the ends of all numbers, on both sides of 0, rising.
func numbers() []int {
	l := []int{least, least + 1, least + 2, greatest}
	for _, n := range []int{0, 1, 2, 3, 4, 6, 7, 12, 30, 46340, 46341, 65536, 1 << 30, 1<<30 + 1, most - 2, most - 1, most, most + 1, most + 2, 2 * most, 1 << 32, most * most, 1 << 62, greatest - 1} {
		l = append(l, n, -n)
	}
	slices.Sort(l)
	return slices.Compact(l)
}

// mayBe is what the document says of a ratio that may be, by exact numbers.
func mayBe(r api.Ratio) bool {
	if r.Num < -most || r.Num > most || r.Den < 1 || r.Den > most {
		return false
	}
	n, d := big.NewInt(int64(r.Num)), big.NewInt(int64(r.Den))
	return new(big.Int).GCD(nil, nil, n.Abs(n), d).Cmp(big.NewInt(1)) == 0
}

// ratios are all that may be of the numbers.
func ratios() []api.Ratio {
	var l []api.Ratio
	for _, n := range numbers() {
		for _, d := range numbers() {
			if r := of(n, d); mayBe(r) {
				l = append(l, r)
			}
		}
	}
	return l
}

// wrong are ratios that may not be, one by each thing that is asked, and hand-made ones at the ends of all numbers.
func wrong() []api.Ratio {
	return []api.Ratio{
		{}, of(1, 0), of(-1, 0), of(most, 0),
		of(0, 2), of(0, most), of(2, 4), of(-2, 4), of(6, 3), of(most, most), of(-most, most), of(most-1, 2),
		of(1, -1), of(-1, -1), of(0, -1), of(3, -2), of(1, -most),
		of(most+1, 1), of(-most-1, 1), of(1, most+1), of(-1, most+1), of(most+1, most), of(most, most+1), of(2*most+1, 2),
		of(least, 1), of(greatest, 1), of(1, least), of(1, greatest), of(0, least), of(0, greatest),
		of(least, least), of(greatest, greatest), of(least, greatest), of(greatest, least), of(least, 1<<62), of(1<<62, 1<<62),
	}
}

func exact(r api.Ratio) *big.Rat { return big.NewRat(int64(r.Num), int64(r.Den)) }

// made is what a call must answer whose exact answer is known.
func made(x *big.Rat) (api.Ratio, api.Errno) {
	n, d := x.Num(), x.Denom()
	if !n.IsInt64() || !d.IsInt64() || n.Int64() < -most || n.Int64() > most || d.Int64() > most {
		return api.Ratio{}, api.ErrOver
	}
	return of(int(n.Int64()), int(d.Int64())), api.OK
}

type pair struct {
	name string
	call func(a, b api.Ratio) (api.Ratio, api.Errno)
}

// pairs are the calls that make one ratio of two.
func pairs() []pair {
	return []pair{
		{"Sum", func(a, b api.Ratio) (api.Ratio, api.Errno) { return Sum(a, b) }},
		{"Minus", Minus},
		{"Mul", Mul},
		{"Div", Div},
	}
}

// P2.1: which ratios may be, and which may not.
func TestCheck(t *testing.T) {
	for _, r := range []api.Ratio{
		of(0, 1), of(1, 1), of(-1, 1), of(3, 2), of(-3, 2), of(1, 2), of(35, 64),
		of(most, 1), of(-most, 1), of(1, most), of(-1, most), of(most, most-1), of(-most, most-1), of(most-1, most), of(1-most, most),
	} {
		if !Check(r) {
			t.Errorf("Check(%v) is false", r)
		}
	}
	for _, r := range wrong() {
		if Check(r) {
			t.Errorf("Check(%v) is true", r)
		}
	}
}

// P2.1: every two numbers as a ratio, held against what the document says.
func TestCheckExact(t *testing.T) {
	for _, n := range numbers() {
		for _, d := range numbers() {
			if r := of(n, d); Check(r) != mayBe(r) {
				t.Errorf("Check(%v) = %t", r, !mayBe(r))
			}
		}
	}
}

// P2.1: small numbers, where every divisor can be tried.
func TestCheckSmall(t *testing.T) {
	for n := -30; n <= 30; n++ {
		for d := -30; d <= 30; d++ {
			want := d >= 1
			for k := 2; k <= 30; k++ {
				if n%k == 0 && d%k == 0 {
					want = false
				}
			}
			if Check(of(n, d)) != want {
				t.Errorf("Check(%d, %d) = %t", n, d, !want)
			}
		}
	}
}

// P2.1: ratios of two numbers at the edges that the document names.
func TestMake(t *testing.T) {
	for _, c := range []struct {
		n, d int
		want api.Ratio
		e    api.Errno
	}{
		{1, 2, of(1, 2), api.OK},
		{6, 4, of(3, 2), api.OK},
		{-6, 4, of(-3, 2), api.OK},
		{12, 4, of(3, 1), api.OK},
		{0, 1, of(0, 1), api.OK},
		{0, 7, of(0, 1), api.OK},
		{0, greatest, of(0, 1), api.OK},
		{most, 1, of(most, 1), api.OK},
		{-most, 1, of(-most, 1), api.OK},
		{1, most, of(1, most), api.OK},
		{-1, most, of(-1, most), api.OK},
		{most, most, of(1, 1), api.OK},
		{-most, most, of(-1, 1), api.OK},
		{most - 1, most, of(most-1, most), api.OK},
		{most + 1, 2, of(1<<30, 1), api.OK},
		{-most - 1, 2, of(-1<<30, 1), api.OK},
		{2, most + 1, of(1, 1<<30), api.OK},
		{2 * most, 2, of(most, 1), api.OK},
		{-2 * most, 2, of(-most, 1), api.OK},
		{2, 2 * most, of(1, most), api.OK},
		{most * most, most, of(most, 1), api.OK},
		{-most * most, most, of(-most, 1), api.OK},
		{most, most * most, of(1, most), api.OK},
		{greatest, greatest, of(1, 1), api.OK},
		{-greatest, greatest, of(-1, 1), api.OK},
		{greatest, greatest / 7, of(7, 1), api.OK},
		{greatest / 7, greatest, of(1, 7), api.OK},
		{least, 1 << 62, of(-2, 1), api.OK},
		{least, 3 << 61, of(-4, 3), api.OK},
		{least, 1 << 33, of(-1<<30, 1), api.OK},
		{most + 1, 1, api.Ratio{}, api.ErrOver},
		{-most - 1, 1, api.Ratio{}, api.ErrOver},
		{1, most + 1, api.Ratio{}, api.ErrOver},
		{-1, most + 1, api.Ratio{}, api.ErrOver},
		{most, most + 1, api.Ratio{}, api.ErrOver},
		{most + 1, most, api.Ratio{}, api.ErrOver},
		{2*most + 2, 2, api.Ratio{}, api.ErrOver},
		{3, 3*most + 3, api.Ratio{}, api.ErrOver},
		{least, 1, api.Ratio{}, api.ErrOver},
		{least, greatest, api.Ratio{}, api.ErrOver},
		{least, 1 << 32, api.Ratio{}, api.ErrOver},
		{greatest, 1, api.Ratio{}, api.ErrOver},
		{greatest, greatest - 1, api.Ratio{}, api.ErrOver},
		{1, greatest, api.Ratio{}, api.ErrOver},
	} {
		if r, e := Make(c.n, c.d); r != c.want || e != c.e {
			t.Errorf("Make(%d, %d) = %v, %d, want %v, %d", c.n, c.d, r, e, c.want, c.e)
		}
	}
}

// P2.1: a divisor that is 0, or below 0, also where there would be no ratio else.
func TestMakeZero(t *testing.T) {
	for _, n := range numbers() {
		for _, d := range []int{0, -1, -2, -most, -most - 1, least, least + 1} {
			if r, e := Make(n, d); r != (api.Ratio{}) || e != api.ErrZero {
				t.Errorf("Make(%d, %d) = %v, %d, want ErrZero", n, d, r, e)
			}
		}
	}
}

// P2.1: all ratios of the numbers, held against exact ones; P2.4: what is told may be.
func TestMakeExact(t *testing.T) {
	for _, n := range numbers() {
		for _, d := range numbers() {
			if d <= 0 {
				continue
			}
			want, we := made(big.NewRat(int64(n), int64(d)))
			r, e := Make(n, d)
			if r != want || e != we {
				t.Fatalf("Make(%d, %d) = %v, %d, want %v, %d", n, d, r, e, want, we)
			}
			if Check(r) != (e == api.OK) {
				t.Fatalf("Make(%d, %d) = %v, %d: may it be?", n, d, r, e)
			}
		}
	}
}

// P2.2: sums that the document names.
func TestSum(t *testing.T) {
	for _, c := range []struct {
		l    []api.Ratio
		want api.Ratio
		e    api.Errno
	}{
		{nil, of(0, 1), api.OK},
		{[]api.Ratio{}, of(0, 1), api.OK},
		{[]api.Ratio{of(0, 1), of(0, 1)}, of(0, 1), api.OK},
		{[]api.Ratio{of(-5, 7)}, of(-5, 7), api.OK},
		{[]api.Ratio{of(1, 6), of(1, 3)}, of(1, 2), api.OK},
		{[]api.Ratio{of(1, 2), of(1, 3), of(1, 6)}, of(1, 1), api.OK},
		{[]api.Ratio{of(1, 2), of(-2, 3), of(1, 6)}, of(0, 1), api.OK},
		{[]api.Ratio{of(most, 1)}, of(most, 1), api.OK},
		{[]api.Ratio{of(-most, 1)}, of(-most, 1), api.OK},
		{[]api.Ratio{of(most-1, 1), of(1, 1)}, of(most, 1), api.OK},
		{[]api.Ratio{of(1-most, 1), of(-1, 1)}, of(-most, 1), api.OK},
		{[]api.Ratio{of(most, 1), of(-most, 1)}, of(0, 1), api.OK},
		{[]api.Ratio{of(1, most), of(-1, most)}, of(0, 1), api.OK},
		{[]api.Ratio{of(most, 2), of(most, 2)}, of(most, 1), api.OK},
		{[]api.Ratio{of(1, 2), of(1, 1<<30)}, of(1<<29+1, 1<<30), api.OK},
		{[]api.Ratio{of(most, 1), of(1, 1)}, api.Ratio{}, api.ErrOver},
		{[]api.Ratio{of(-most, 1), of(-1, 1)}, api.Ratio{}, api.ErrOver},
		{[]api.Ratio{of(most, 1), of(most, 1)}, api.Ratio{}, api.ErrOver},
		{[]api.Ratio{of(1, most), of(1, most-1)}, api.Ratio{}, api.ErrOver},
		{[]api.Ratio{of(1, 2), of(1, most)}, api.Ratio{}, api.ErrOver},
		{[]api.Ratio{of(most, most-1), of(most-1, most)}, api.Ratio{}, api.ErrOver},
	} {
		if r, e := Sum(c.l...); r != c.want || e != c.e {
			t.Errorf("Sum(%v) = %v, %d, want %v, %d", c.l, r, e, c.want, c.e)
		}
	}
}

// P2.2: some first ones make no ratio, though all of them do; in another order they do throughout.
func TestSumOfFirstOnes(t *testing.T) {
	for _, c := range []struct {
		over, order []api.Ratio
		want        api.Ratio
	}{
		{[]api.Ratio{of(most, 1), of(1, 1), of(-1, 1)}, []api.Ratio{of(most, 1), of(-1, 1), of(1, 1)}, of(most, 1)},
		{[]api.Ratio{of(-most, 1), of(-1, 2), of(1, 2)}, []api.Ratio{of(-1, 2), of(1, 2), of(-most, 1)}, of(-most, 1)},
		{[]api.Ratio{of(1, most), of(1, 2), of(-1, 2)}, []api.Ratio{of(1, 2), of(-1, 2), of(1, most)}, of(1, most)},
		{[]api.Ratio{of(5, 1), of(most, 1), of(-5, 1), of(0, 1)}, []api.Ratio{of(5, 1), of(-5, 1), of(0, 1), of(most, 1)}, of(most, 1)},
	} {
		if r, e := Sum(c.over...); r != (api.Ratio{}) || e != api.ErrOver {
			t.Errorf("Sum(%v) = %v, %d, want ErrOver", c.over, r, e)
		}
		if r, e := Sum(c.order...); r != c.want || e != api.OK {
			t.Errorf("Sum(%v) = %v, %d, want %v", c.order, r, e, c.want)
		}
	}
}

// P2.2: many, where every first ones make a ratio: 1/(1*2) + 1/(2*3) + .. is n/(n+1).
func TestSumOfMany(t *testing.T) {
	var l []api.Ratio
	for n := 1; n <= 40000; n++ {
		l = append(l, of(1, n*(n+1)))
	}
	if r, e := Sum(l...); r != of(40000, 40001) || e != api.OK {
		t.Errorf("%v, %d", r, e)
	}
}

// R3: a list that is handed in stays as it is, its spare room included.
func TestSumLeavesList(t *testing.T) {
	room := []api.Ratio{of(1, 2), of(1, 3), of(2, 4), of(9, 9)}
	before := slices.Clone(room)
	for n := range len(room) + 1 {
		Sum(room[:n]...)
		if !slices.Equal(room, before) {
			t.Fatalf("of %d changed: %v", n, room)
		}
	}
}

// P2.2: differences, products and quotients at the edges that the document names.
func TestTwo(t *testing.T) {
	for _, c := range []struct {
		name string
		call func(a, b api.Ratio) (api.Ratio, api.Errno)
		a, b api.Ratio
		want api.Ratio
		e    api.Errno
	}{
		{"Minus", Minus, of(1, 3), of(1, 2), of(-1, 6), api.OK},
		{"Minus", Minus, of(1, 2), of(1, 3), of(1, 6), api.OK},
		{"Minus", Minus, of(5, 7), of(5, 7), of(0, 1), api.OK},
		{"Minus", Minus, of(0, 1), of(most, 1), of(-most, 1), api.OK},
		{"Minus", Minus, of(0, 1), of(-most, 1), of(most, 1), api.OK},
		{"Minus", Minus, of(most, 1), of(most, 1), of(0, 1), api.OK},
		{"Minus", Minus, of(most-1, 1), of(-1, 1), of(most, 1), api.OK},
		{"Minus", Minus, of(most, 1), of(-1, 1), api.Ratio{}, api.ErrOver},
		{"Minus", Minus, of(-most, 1), of(1, 1), api.Ratio{}, api.ErrOver},
		{"Minus", Minus, of(most, 1), of(-most, 1), api.Ratio{}, api.ErrOver},
		{"Minus", Minus, of(1, most), of(1, most-1), api.Ratio{}, api.ErrOver},
		{"Minus", Minus, of(most, most-1), of(1-most, most), api.Ratio{}, api.ErrOver},
		{"Mul", Mul, of(2, 3), of(9, 4), of(3, 2), api.OK},
		{"Mul", Mul, of(-2, 3), of(9, 4), of(-3, 2), api.OK},
		{"Mul", Mul, of(-2, 3), of(-9, 4), of(3, 2), api.OK},
		{"Mul", Mul, of(0, 1), of(-most, 1), of(0, 1), api.OK},
		{"Mul", Mul, of(most, 1), of(-1, 1), of(-most, 1), api.OK},
		{"Mul", Mul, of(most, 2), of(2, most), of(1, 1), api.OK},
		{"Mul", Mul, of(most, most-1), of(most-1, most), of(1, 1), api.OK},
		{"Mul", Mul, of(most, 1), of(2, 1), api.Ratio{}, api.ErrOver},
		{"Mul", Mul, of(-most, 1), of(most, 1), api.Ratio{}, api.ErrOver},
		{"Mul", Mul, of(1, most), of(1, 2), api.Ratio{}, api.ErrOver},
		{"Mul", Mul, of(1<<16, 1), of(1<<15, 1), api.Ratio{}, api.ErrOver},
		{"Div", Div, of(-3, 4), of(9, 2), of(-1, 6), api.OK},
		{"Div", Div, of(3, 4), of(9, 2), of(1, 6), api.OK},
		{"Div", Div, of(0, 1), of(1, most), of(0, 1), api.OK},
		{"Div", Div, of(most, 1), of(most, 1), of(1, 1), api.OK},
		{"Div", Div, of(1, 1), of(most, 1), of(1, most), api.OK},
		{"Div", Div, of(-1, 1), of(1, most), of(-most, 1), api.OK},
		{"Div", Div, of(most, most-1), of(most, most-1), of(1, 1), api.OK},
		{"Div", Div, of(2, 1), of(1, most), api.Ratio{}, api.ErrOver},
		{"Div", Div, of(1, 2), of(most, 1), api.Ratio{}, api.ErrOver},
		{"Div", Div, of(-most, 1), of(1, most), api.Ratio{}, api.ErrOver},
	} {
		if r, e := c.call(c.a, c.b); r != c.want || e != c.e {
			t.Errorf("%s(%v, %v) = %v, %d, want %v, %d", c.name, c.a, c.b, r, e, c.want, c.e)
		}
	}
}

// P2.2: a divisor that is 0, or below 0, also where there would be no ratio else.
func TestDivZero(t *testing.T) {
	for _, a := range []api.Ratio{of(0, 1), of(1, 1), of(-1, 1), of(most, 1), of(-most, 1), of(1, most)} {
		for _, b := range []api.Ratio{of(0, 1), of(-1, 1), of(-1, 2), of(-most, 1), of(-1, most)} {
			if r, e := Div(a, b); r != (api.Ratio{}) || e != api.ErrZero {
				t.Errorf("Div(%v, %v) = %v, %d, want ErrZero", a, b, r, e)
			}
		}
	}
}

// P2.2, P2.3: ratios of which one may not be, on either side, also where what is made would be too great.
func TestWrong(t *testing.T) {
	right := []api.Ratio{of(0, 1), of(5, 1), of(-5, 1), of(1, 2), of(most, 1), of(-most, 1), of(1, most)}
	for _, w := range wrong() {
		for _, r := range append(right, w) {
			for _, p := range pairs() {
				for _, x := range [][2]api.Ratio{{w, r}, {r, w}} {
					if m, e := p.call(x[0], x[1]); m != (api.Ratio{}) || e != api.ErrZero {
						t.Errorf("%s(%v, %v) = %v, %d, want ErrZero", p.name, x[0], x[1], m, e)
					}
				}
			}
			if Less(w, r) || Less(r, w) {
				t.Errorf("Less of %v and %v", w, r)
			}
		}
		if n := Half(w); n != 0 {
			t.Errorf("Half(%v) = %d, want 0", w, n)
		}
	}
}

// P2.2: a sum with one that may not be, wherever it stands, also behind first ones that make no ratio.
func TestSumWrong(t *testing.T) {
	for _, w := range wrong() {
		for _, l := range [][]api.Ratio{
			{w},
			{w, of(1, 2), of(1, 3)},
			{of(1, 2), w, of(1, 3)},
			{of(1, 2), of(1, 3), w},
			{of(most, 1), of(1, 1), w},
			{of(1, most), of(1, 2), of(-1, 2), w, of(0, 1)},
			{w, of(most, 1), of(1, 1)},
		} {
			if r, e := Sum(l...); r != (api.Ratio{}) || e != api.ErrZero {
				t.Errorf("Sum(%v) = %v, %d, want ErrZero", l, r, e)
			}
		}
	}
}

// P2.2, P2.3: every two ratios, held against exact ones; P2.4: what is told may be.
func TestTwoExact(t *testing.T) {
	for _, a := range ratios() {
		for _, b := range ratios() {
			x, y := exact(a), exact(b)
			for _, p := range pairs() {
				want, we := api.Ratio{}, api.ErrZero
				switch {
				case p.name == "Sum":
					want, we = made(new(big.Rat).Add(x, y))
				case p.name == "Minus":
					want, we = made(new(big.Rat).Sub(x, y))
				case p.name == "Mul":
					want, we = made(new(big.Rat).Mul(x, y))
				case y.Sign() > 0:
					want, we = made(new(big.Rat).Quo(x, y))
				}
				r, e := p.call(a, b)
				if r != want || e != we {
					t.Fatalf("%s(%v, %v) = %v, %d, want %v, %d", p.name, a, b, r, e, want, we)
				}
				if Check(r) != (e == api.OK) {
					t.Fatalf("%s(%v, %v) = %v, %d: may it be?", p.name, a, b, r, e)
				}
			}
			if Less(a, b) != (x.Cmp(y) < 0) {
				t.Fatalf("Less(%v, %v) = %t", a, b, Less(a, b))
			}
		}
	}
}

// P2.3: which is less, below 0 and just beside one another too.
func TestLess(t *testing.T) {
	rising := []api.Ratio{
		of(-most, 1), of(1-most, 1), of(-most, 2), of(-2, 1), of(-most, most-1), of(-1, 1), of(1-most, most), of(-1, 2), of(-1, most-1), of(-1, most),
		of(0, 1), of(1, most), of(1, most-1), of(1, 3), of(1, 2), of(2, 3), of(most-2, most-1), of(most-1, most), of(1, 1), of(most, most-1), of(most, 2), of(most-1, 1), of(most, 1),
	}
	for i, a := range rising {
		for k, b := range rising {
			if Less(a, b) != (i < k) {
				t.Errorf("Less(%v, %v) = %t", a, b, i >= k)
			}
		}
	}
}

// P2.3: the nearest number, of two that are as near the greater one.
func TestHalf(t *testing.T) {
	for _, c := range []struct {
		r    api.Ratio
		want int
	}{
		{of(0, 1), 0},
		{of(5, 1), 5},
		{of(-5, 1), -5},
		{of(1, 2), 1},
		{of(-1, 2), 0},
		{of(3, 2), 2},
		{of(-3, 2), -1},
		{of(7, 2), 4},
		{of(-7, 2), -3},
		{of(1, 3), 0},
		{of(2, 3), 1},
		{of(-1, 3), 0},
		{of(-2, 3), -1},
		{of(most, 1), most},
		{of(-most, 1), -most},
		{of(most, 2), 1 << 30},
		{of(-most, 2), -1<<30 + 1},
		{of(1, most), 0},
		{of(-1, most), 0},
		{of(most-1, most), 1},
		{of(1-most, most), -1},
		{of(1<<30-1, most), 0},
		{of(1<<30, most), 1},
		{of(1-1<<30, most), 0},
		{of(-1<<30, most), -1},
		{of(most, most-1), 1},
		{of(-most, most-1), -1},
	} {
		if n := Half(c.r); n != c.want {
			t.Errorf("Half(%v) = %d, want %d", c.r, n, c.want)
		}
	}
}

// P2.3: all ratios of the numbers, held against exact ones: the greatest number that is not above the ratio and 1/2.
func TestHalfExact(t *testing.T) {
	for _, r := range ratios() {
		x := new(big.Rat).Add(exact(r), big.NewRat(1, 2))
		// Div is downwards where the divisor is above 0.
		want := new(big.Int).Div(x.Num(), x.Denom())
		if n := Half(r); int64(n) != want.Int64() {
			t.Errorf("Half(%v) = %d, want %d", r, n, want)
		}
	}
}

// P2.4: sums and products do not hang on which is first; what is added is taken away again, if nothing is too great.
func TestFollows(t *testing.T) {
	taken := 0
	for _, a := range ratios() {
		for _, b := range ratios() {
			s, e := Sum(a, b)
			if m, f := Sum(b, a); m != s || f != e {
				t.Fatalf("Sum(%v, %v) = %v, %d, the other way %v, %d", a, b, s, e, m, f)
			}
			p, f := Mul(a, b)
			if m, g := Mul(b, a); m != p || g != f {
				t.Fatalf("Mul(%v, %v) = %v, %d, the other way %v, %d", a, b, p, f, m, g)
			}
			if e != api.OK {
				continue
			}
			taken++
			if m, g := Minus(s, b); m != a || g != api.OK {
				t.Fatalf("Minus(%v, %v) = %v, %d, want %v", s, b, m, g, a)
			}
		}
	}
	if taken == 0 {
		t.Error("there was no sum")
	}
}
