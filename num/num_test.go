package num

import (
	"math"
	"math/big"
	"slices"
	"testing"

	"lumper/api"
)

const (
	least    = math.MinInt
	greatest = math.MaxInt
)

// edges are numbers about which the calls turn: small ones, powers of two and roots of the greatest number, and what lies about them.
func edges() []int {
	var l []int
	for _, n := range []int{0, 12, 18, 97, 1 << 31, 1 << 32, 3037000499, greatest / 3, 1 << 62, greatest - 6} {
		for d := -6; d <= 6; d++ {
			l = append(l, n+d, -(n + d))
		}
	}
	l = append(l, least, least+1, least+2, least+3)
	slices.Sort(l)
	return slices.Compact(l)
}

func asBig(n int) *big.Int { return big.NewInt(int64(n)) }

// number is what a call must answer whose exact answer is known.
func number(exact *big.Int) (int, api.Errno) {
	if !exact.IsInt64() {
		return 0, api.ErrOver
	}
	return int(exact.Int64()), api.OK
}

func exactSum(l []int) (int, api.Errno) {
	sum := new(big.Int)
	for _, n := range l {
		sum.Add(sum, asBig(n))
		if !sum.IsInt64() {
			return 0, api.ErrOver
		}
	}
	return number(sum)
}

// P1.1: the sums that the document names.
func TestSum(t *testing.T) {
	for _, c := range []struct {
		l    []int
		want int
		e    api.Errno
	}{
		{nil, 0, api.OK},
		{[]int{}, 0, api.OK},
		{[]int{0, 0}, 0, api.OK},
		{[]int{7}, 7, api.OK},
		{[]int{1, 2, 3, 4}, 10, api.OK},
		{[]int{5, -8, 1}, -2, api.OK},
		{[]int{greatest}, greatest, api.OK},
		{[]int{least}, least, api.OK},
		{[]int{greatest, 0, 0}, greatest, api.OK},
		{[]int{least, 0, 0}, least, api.OK},
		{[]int{greatest, least}, -1, api.OK},
		{[]int{least, greatest}, -1, api.OK},
		{[]int{greatest - 1, 1}, greatest, api.OK},
		{[]int{least + 1, -1}, least, api.OK},
		{[]int{greatest, 1}, 0, api.ErrOver},
		{[]int{1, greatest}, 0, api.ErrOver},
		{[]int{least, -1}, 0, api.ErrOver},
		{[]int{-1, least}, 0, api.ErrOver},
		{[]int{greatest, greatest}, 0, api.ErrOver},
		{[]int{least, least}, 0, api.ErrOver},
		{[]int{5, 6, greatest}, 0, api.ErrOver},
	} {
		if n, e := Sum(c.l...); n != c.want || e != c.e {
			t.Errorf("Sum(%v) = %d, %d, want %d, %d", c.l, n, e, c.want, c.e)
		}
	}
}

// P1.1: a sum of some first ones that is no number, though the sum of all is one.
func TestSumOfFirstOnes(t *testing.T) {
	for _, l := range [][]int{
		{greatest, 1, -1},
		{greatest, greatest, least, least},
		{3, greatest, -3},
		{least, -1, 1},
		{least, least, greatest, greatest, 2},
		{-3, least, 3},
		{greatest, 1, -5, 4, 0},
	} {
		if n, e := Sum(l...); n != 0 || e != api.ErrOver {
			t.Errorf("Sum(%v) = %d, %d, want ErrOver", l, n, e)
		}
	}
	for _, l := range [][]int{{greatest, -1, 1}, {-1, greatest, 1}, {least, greatest, greatest, 1}} {
		if n, e := Sum(l...); n != greatest || e != api.OK {
			t.Errorf("Sum(%v) = %d, %d, want %d", l, n, e, greatest)
		}
	}
}

// P1.1: all sums of two, and of three with one that brings back what went over, held against exact ones.
func TestSumExact(t *testing.T) {
	for _, a := range edges() {
		for _, b := range edges() {
			for _, l := range [][]int{{a, b}, {a, b, 0}, {a, b, -1}, {a, b, 1}, {a, b, least}, {a, b, greatest}} {
				want, we := exactSum(l)
				if n, e := Sum(l...); n != want || e != we {
					t.Fatalf("Sum(%v) = %d, %d, want %d, %d", l, n, e, want, we)
				}
			}
		}
	}
}

// R3: a list that is handed in stays as it is, its spare room included.
func TestSumLeavesList(t *testing.T) {
	room := []int{4, greatest, -4, 9, 9}
	l := room[:3]
	Sum(l...)
	if !slices.Equal(room, []int{4, greatest, -4, 9, 9}) {
		t.Errorf("changed: %v", room)
	}
}

// P1.1: products at both ends of the numbers.
func TestMul(t *testing.T) {
	for _, c := range []struct {
		a, b, want int
		e          api.Errno
	}{
		{0, 0, 0, api.OK},
		{6, 7, 42, api.OK},
		{-6, 7, -42, api.OK},
		{-6, -7, 42, api.OK},
		{0, least, 0, api.OK},
		{0, greatest, 0, api.OK},
		{1, least, least, api.OK},
		{1, greatest, greatest, api.OK},
		{-1, greatest, least + 1, api.OK},
		{-1, least, 0, api.ErrOver},
		{2, 1 << 62, 0, api.ErrOver},
		{-2, 1 << 62, least, api.OK},
		{2, -1 << 62, least, api.OK},
		{-2, -1 << 62, 0, api.ErrOver},
		{2, 1<<62 - 1, greatest - 1, api.OK},
		{7, 1317624576693539401, greatest, api.OK},
		{-7, 1317624576693539401, least + 1, api.OK},
		{8, 1317624576693539401, 0, api.ErrOver},
		{3, -3074457345618258603, 0, api.ErrOver},
		{3, 3074457345618258603, 0, api.ErrOver},
		{1 << 32, 1 << 32, 0, api.ErrOver},
		{least, least, 0, api.ErrOver},
		{greatest, greatest, 0, api.ErrOver},
		{greatest, least, 0, api.ErrOver},
	} {
		for _, p := range [][2]int{{c.a, c.b}, {c.b, c.a}} {
			if n, e := Mul(p[0], p[1]); n != c.want || e != c.e {
				t.Errorf("Mul(%d, %d) = %d, %d, want %d, %d", p[0], p[1], n, e, c.want, c.e)
			}
		}
	}
}

// P1.1: products held against exact ones; P1.4: they do not hang on which is first.
func TestMulExact(t *testing.T) {
	for _, a := range edges() {
		for _, b := range edges() {
			want, we := number(new(big.Int).Mul(asBig(a), asBig(b)))
			n, e := Mul(a, b)
			if n != want || e != we {
				t.Fatalf("Mul(%d, %d) = %d, %d, want %d, %d", a, b, n, e, want, we)
			}
			if m, f := Mul(b, a); m != n || f != e {
				t.Fatalf("Mul(%d, %d) = %d, %d, the other way %d, %d", a, b, n, e, m, f)
			}
		}
	}
}

// P1.2: quotients that the document names, among them those just in the middle of two numbers.
func TestQuotients(t *testing.T) {
	for _, c := range []struct{ a, b, div, half, up int }{
		{0, 1, 0, 0, 0},
		{0, greatest, 0, 0, 0},
		{6, 2, 3, 3, 3},
		{-6, 2, -3, -3, -3},
		{7, 2, 3, 4, 4},
		{-7, 2, -4, -3, -3},
		{1, 2, 0, 1, 1},
		{-1, 2, -1, 0, 0},
		{3, 2, 1, 2, 2},
		{-3, 2, -2, -1, -1},
		{15, 10, 1, 2, 2},
		{14, 10, 1, 1, 2},
		{16, 10, 1, 2, 2},
		{-15, 10, -2, -1, -1},
		{-14, 10, -2, -1, -1},
		{-16, 10, -2, -2, -1},
		{3, 7, 0, 0, 1},
		{4, 7, 0, 1, 1},
		{-3, 7, -1, 0, 0},
		{-4, 7, -1, -1, 0},
		{greatest, 1, greatest, greatest, greatest},
		{least, 1, least, least, least},
		{greatest, 2, 1<<62 - 1, 1 << 62, 1 << 62},
		{least, 2, -1 << 62, -1 << 62, -1 << 62},
		{least + 1, 2, -1 << 62, -1<<62 + 1, -1<<62 + 1},
		{greatest - 1, greatest, 0, 1, 1},
		{1 << 62, greatest, 0, 1, 1},
		{1<<62 - 1, greatest, 0, 0, 1},
		{-1<<62 + 1, greatest, -1, 0, 0},
		{-1 << 62, greatest, -1, -1, 0},
		{1<<62 - 1, greatest - 1, 0, 1, 1},
		{-1<<62 + 1, greatest - 1, -1, 0, 0},
		{least, greatest, -2, -1, -1},
		{least, greatest - 1, -2, -1, -1},
		{-1, greatest, -1, 0, 0},
	} {
		for _, q := range quotients() {
			want := map[string]int{"Div": c.div, "Half": c.half, "Up": c.up}[q.name]
			if n, e := q.call(c.a, c.b); n != want || e != api.OK {
				t.Errorf("%s(%d, %d) = %d, %d, want %d", q.name, c.a, c.b, n, e, want)
			}
		}
	}
}

type quotient struct {
	name  string
	call  func(a, b int) (int, api.Errno)
	exact func(a, b *big.Int) *big.Int
}

// quotients are the three calls, each with an exact one; big.Int.Div is downwards where the divisor is above 0.
func quotients() []quotient {
	down := func(a, b *big.Int) *big.Int { return new(big.Int).Div(a, b) }
	return []quotient{
		{"Div", Div, down},
		{"Half", Half, func(a, b *big.Int) *big.Int {
			twice := new(big.Int).Add(new(big.Int).Lsh(a, 1), b)
			return down(twice, new(big.Int).Lsh(b, 1))
		}},
		{"Up", Up, func(a, b *big.Int) *big.Int {
			return down(new(big.Int).Add(a, new(big.Int).Sub(b, big.NewInt(1))), b)
		}},
	}
}

// P1.2: a divisor that is 0, or below 0.
func TestZero(t *testing.T) {
	for _, q := range quotients() {
		for _, a := range []int{0, 1, -1, 7, least, greatest} {
			for _, b := range []int{0, -1, -2, least, least + 1} {
				if n, e := q.call(a, b); n != 0 || e != api.ErrZero {
					t.Errorf("%s(%d, %d) = %d, %d, want ErrZero", q.name, a, b, n, e)
				}
			}
		}
	}
}

// P1.2: all quotients of edges, held against exact ones; P1.4: they rise with a.
func TestQuotientsExact(t *testing.T) {
	for _, q := range quotients() {
		for _, b := range edges() {
			last := least
			for _, a := range edges() {
				n, e := q.call(a, b)
				if b <= 0 {
					if n != 0 || e != api.ErrZero {
						t.Fatalf("%s(%d, %d) = %d, %d, want ErrZero", q.name, a, b, n, e)
					}
					continue
				}
				want, we := number(q.exact(asBig(a), asBig(b)))
				if n != want || e != we {
					t.Fatalf("%s(%d, %d) = %d, %d, want %d, %d", q.name, a, b, n, e, want, we)
				}
				if n < last {
					t.Fatalf("%s(%d, %d) = %d, less than %d for a lesser number", q.name, a, b, n, last)
				}
				last = n
			}
		}
	}
}

// P1.4: Div, Half and Up rise with a, one by one, through 0 too.
func TestRise(t *testing.T) {
	for _, q := range quotients() {
		for b := 1; b <= 12; b++ {
			last, _ := q.call(-50, b)
			for a := -49; a <= 50; a++ {
				n, e := q.call(a, b)
				if e != api.OK || n < last || n > last+1 {
					t.Errorf("%s(%d, %d) = %d, %d behind %d", q.name, a, b, n, e, last)
				}
				last = n
			}
		}
	}
}

// P1.3: divisors that the document names.
func TestGcd(t *testing.T) {
	for _, c := range []struct{ a, b, want int }{
		{0, 0, 0},
		{0, 9, 9},
		{0, -9, 9},
		{1, 0, 1},
		{12, 18, 6},
		{-12, 18, 6},
		{-12, -18, 6},
		{17, 17, 17},
		{17, -17, 17},
		{35, 64, 1},
		{greatest, 0, greatest},
		{greatest, greatest, greatest},
		{greatest, -greatest, greatest},
		{greatest, 7, 7},
		{greatest, greatest - 1, 1},
		{least, 0, 1 << 62},
		{least, least, 1 << 62},
		{least, 1 << 62, 1 << 62},
		{least, -1 << 62, 1 << 62},
		{least, 3 << 61, 1 << 61},
		{least, 1, 1},
		{least, -1, 1},
		{least, 24, 8},
		{least, greatest, 1},
	} {
		for _, p := range [][2]int{{c.a, c.b}, {c.b, c.a}} {
			if n := Gcd(p[0], p[1]); n != c.want {
				t.Errorf("Gcd(%d, %d) = %d, want %d", p[0], p[1], n, c.want)
			}
		}
	}
}

// P1.3: small numbers, where every divisor can be tried.
func TestGcdSmall(t *testing.T) {
	for a := -40; a <= 40; a++ {
		for b := -40; b <= 40; b++ {
			want := 0
			for d := 1; d <= 40; d++ {
				if a%d == 0 && b%d == 0 && (a != 0 || b != 0) {
					want = d
				}
			}
			if n := Gcd(a, b); n != want {
				t.Errorf("Gcd(%d, %d) = %d, want %d", a, b, n, want)
			}
		}
	}
}

// P1.3: great numbers, held against exact ones; P1.4: Gcd divides both.
func TestGcdExact(t *testing.T) {
	for _, a := range edges() {
		for _, b := range edges() {
			n := Gcd(a, b)
			if a == 0 && b == 0 {
				continue
			}
			exact := new(big.Int).GCD(nil, nil, new(big.Int).Abs(asBig(a)), new(big.Int).Abs(asBig(b)))
			want, e := number(exact)
			if e != api.OK {
				want = 1 << 62
			}
			if n != want {
				t.Fatalf("Gcd(%d, %d) = %d, want %d", a, b, n, want)
			}
			if n <= 0 || a%n != 0 || b%n != 0 {
				t.Fatalf("Gcd(%d, %d) = %d does not divide both", a, b, n)
			}
		}
	}
}
