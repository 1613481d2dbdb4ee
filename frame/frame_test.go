package frame

import (
	"bytes"
	"encoding/binary"
	"hash/crc32"
	"math"
	"math/big"
	"math/bits"
	"math/rand"
	"slices"
	"testing"

	"lumper/api"
)

// number is the bytes of a number that is not below 0, as the document says them.
func number(n int) []byte {
	held := big.NewInt(int64(n)).Bytes()
	return append([]byte{byte(len(held))}, held...)
}

// summed is bytes, and the four bytes of their sum behind, the lowest first, by the library's sum of this kind.
func summed(b []byte) []byte {
	sum := crc32.Checksum(b, crc32.MakeTable(crc32.Castagnoli))
	return binary.LittleEndian.AppendUint32(bytes.Clone(b), sum)
}

// said is a payload's frame, as the document says it; of a payload that is too long, too.
func said(p []byte) []byte { return summed(slices.Concat(number(len(p)), p)) }

// chain is the frames of payloads, one behind the other, and where each of them ends.
func chain(l ...[]byte) (b []byte, ends []int) {
	for _, p := range l {
		b = append(b, said(p)...)
		ends = append(ends, len(b))
	}
	return b, ends
}

// looked is the payload whose frame b begins with, and how many bytes that has: each part of b is held
// against the document's words.
func looked(b []byte) (payload []byte, size int, ok bool) {
	for from := range b {
		for to := from; to <= len(b) && to-from <= api.MaxFrame; to++ {
			if whole := said(b[from:to]); bytes.HasPrefix(b, whole) {
				return b[from:to], len(whole), true
			}
		}
	}
	return nil, 0, false
}

// some is so many bytes by a fixed chance.
func some(r *rand.Rand, n int) []byte {
	b := make([]byte, n)
	for i := range b {
		b[i] = byte(r.Intn(256))
	}
	return b
}

// lengths are those of payloads without bytes, of those whose length needs one byte more, and those about
// these; and the greatest ones.
func lengths() []int {
	return []int{0, 1, 2, 3, 127, 128, 254, 255, 256, 257, 65534, 65535, 65536, 65537, api.MaxFrame - 1, api.MaxFrame}
}

// payloads are bytes of each length, and some that look like frames, or parts of them.
func payloads() [][]byte {
	r := rand.New(rand.NewSource(6))
	l := [][]byte{nil, {}, {0}, {1}, {255}, []byte("ab"), said(nil), said([]byte("ab")), said(nil)[:4], make([]byte, 300)}
	for _, n := range lengths() {
		l = append(l, make([]byte, n), some(r, n))
	}
	return l
}

// short are payloads of few bytes, of one length and of others.
func short() [][]byte {
	return [][]byte{nil, []byte("ab"), {0}, nil, nil, []byte("a longer one, of more bytes"), make([]byte, 260), {1, 2, 3}}
}

// tails are what may stand ahead, and behind: nothing, bytes that are no frame, frames, and parts of them.
func tails() [][]byte {
	return [][]byte{nil, {}, {0}, {9}, {255, 255}, []byte("any bytes"), make([]byte, 300),
		said(nil), said([]byte("ab")), said([]byte("ab"))[:7], slices.Concat(said(nil), said([]byte("x")), []byte{1})}
}

// nones are bytes that no frame stands at the beginning of, whatever follows.
func nones() map[string][]byte {
	r := rand.New(rand.NewSource(61))
	long := summed(slices.Concat([]byte{4, 0, 1, 0, 0}, make([]byte, 1<<16)))
	return map[string][]byte{
		"a length's size above 8":           summed(append([]byte{9, 0, 0, 0, 0, 0, 0, 0, 0, 1}, 'a')),
		"the greatest size of a length":     bytes.Repeat([]byte{255}, 300),
		"0 in one byte":                     summed([]byte{1, 0}),
		"1 in two bytes":                    summed([]byte{2, 0, 1, 'a'}),
		"2 in three bytes":                  summed([]byte{3, 0, 0, 2, 'a', 'b'}),
		"3 in eight bytes":                  summed([]byte{8, 0, 0, 0, 0, 0, 0, 0, 3, 'a', 'b', 'c'}),
		"65536 in four bytes":               long,
		"eight bytes that are too great":    summed([]byte{8, 128, 0, 0, 0, 0, 0, 0, 1, 'a'}),
		"eight bytes, all of them 255":      summed(append([]byte{8}, bytes.Repeat([]byte{255}, 8)...)),
		"the greatest length":               append(number(math.MaxInt), make([]byte, 40)...),
		"a length that goes over, with all": append(number(math.MaxInt-8), make([]byte, 40)...),
		"one byte too many":                 said(make([]byte, api.MaxFrame+1)),
		"one byte too many, by chance":      said(some(r, api.MaxFrame+1)),
		"17 bits of length":                 said(make([]byte, 1<<17)),
		"three bytes of length, at most":    said(make([]byte, 1<<24-1)),
		"four bytes of length":              said(make([]byte, 1<<24)),
		"the sum of the payload alone":      append([]byte{1, 2, 'a', 'b'}, summed([]byte("ab"))[2:]...),
		"the sum of the length alone":       append([]byte{1, 2, 'a', 'b'}, summed([]byte{1, 2})[2:]...),
		"the sum the highest first":         {0, 0x52, 0x7d, 0x53, 0x51},
		"a sum without its end":             {0, 0xae, 0xac, 0x82, 0xad},
		"a sum of another kind":             {0, 0x8d, 0xef, 0x02, 0xd2},
		"a sum of 0":                        {0, 0, 0, 0, 0},
		"the sum ahead":                     {0x51, 0x53, 0x7d, 0x52, 0},
		"the length's bytes lowest first":   summed(slices.Concat([]byte{2, 2, 1}, make([]byte, 258))),
		"a length without its size":         summed([]byte{2, 'a', 'b'}),
		"one byte more than is told":        summed([]byte{1, 2, 'a', 'b', 'c'}),
	}
}

// none tells whether nothing but the error is answered of b.
func none(t *testing.T, name string, b []byte) {
	t.Helper()
	if p, rest, e := Take(b); len(p) != 0 || len(rest) != 0 || e != api.ErrFrame {
		t.Fatalf("%s: Take(%.20v, of %d) = of %d, of %d, %d", name, b, len(b), len(p), len(rest), e)
	}
	all(t, name, b, nil, 0)
}

// all holds what All answers against payloads, and how many bytes their frames have.
func all(t *testing.T, name string, b []byte, want [][]byte, size int) {
	t.Helper()
	l, n := All(b)
	if n != size || !slices.EqualFunc(l, want, bytes.Equal) {
		t.Fatalf("%s: All(%.20v, of %d) = %d payloads, %d bytes, want %d, %d", name, b, len(b), len(l), n, len(want), size)
	}
}

// known are payloads with their frames written out, the document's example first.
func known() []struct{ payload, frame string } {
	return []struct{ payload, frame string }{
		{"", "\x00\x51\x53\x7d\x52"},
		{"a", "\x01\x01a\x12\xb9\x2a\x45"},
		{"ab", "\x01\x02ab\x96\xed\x8e\xc9"},
		{"\x00", "\x01\x01\x00\x73\xa9\x87\xd6"},
		{"\xff", "\x01\x01\xff\x22\xfa\xfa\x7b"},
		{"dock", "\x01\x04dock\x1b\x47\x4a\x79"},
		{string(make([]byte, 255)), "\x01\xff" + string(make([]byte, 255)) + "\x82\x1d\x80\x21"},
		{string(make([]byte, 256)), "\x02\x01\x00" + string(make([]byte, 256)) + "\xba\xae\xae\x15"},
		{string(make([]byte, 65535)), "\x02\xff\xff" + string(make([]byte, 65535)) + "\x8a\x20\xa0\x8a"},
		{string(make([]byte, 65536)), "\x03\x01\x00\x00" + string(make([]byte, 65536)) + "\x66\x9a\x48\x13"},
		{string(make([]byte, 100000)), "\x03\x01\x86\xa0" + string(make([]byte, 100000)) + "\xe0\xd7\xef\x17"},
	}
}

// P6.1, P6.2, P6.3: the document's example, and others whose frames are known, put and taken.
func TestKnown(t *testing.T) {
	for _, c := range known() {
		if b, e := Put(nil, []byte(c.payload)); string(b) != c.frame || e != api.OK {
			t.Errorf("Put(nil, %.20q) = %.20q, of %d, %d", c.payload, b, len(b), e)
		}
		if p, rest, e := Take([]byte(c.frame)); string(p) != c.payload || len(rest) != 0 || e != api.OK {
			t.Errorf("Take(%.20q) = %.20q, of %d, %d", c.frame, p, len(rest), e)
		}
		all(t, "known", []byte(c.frame), [][]byte{[]byte(c.payload)}, len(c.frame))
	}
}

// P6.1: payloads of each length, behind whatever there is.
func TestPut(t *testing.T) {
	for _, p := range payloads() {
		for _, ahead := range tails() {
			if b, e := Put(ahead, p); !bytes.Equal(b, slices.Concat(ahead, said(p))) || e != api.OK {
				t.Errorf("Put(%.20v, of %d) = %.20v, of %d, %d", ahead, len(p), b, len(b), e)
			}
		}
	}
}

// P6.1: bytes ahead that are long: none of them is looked at, or counted.
func TestPutLongAhead(t *testing.T) {
	for _, n := range []int{api.MaxFrame, api.MaxFrame + 1, 3 * api.MaxFrame} {
		ahead := some(rand.New(rand.NewSource(62)), n)
		for _, p := range [][]byte{nil, []byte("ab"), make([]byte, api.MaxFrame)} {
			if b, e := Put(ahead, p); !bytes.Equal(b, slices.Concat(ahead, said(p))) || e != api.OK {
				t.Errorf("%d ahead of %d: of %d, %d", n, len(p), len(b), e)
			}
		}
	}
}

// P6.1: payloads that are too long: nothing is answered beside the error.
func TestPutTooLong(t *testing.T) {
	for _, n := range []int{api.MaxFrame + 1, api.MaxFrame + 2, 1 << 17, 2 * api.MaxFrame, 1 << 20, 1 << 24} {
		for _, ahead := range tails() {
			if b, e := Put(ahead, make([]byte, n)); len(b) != 0 || e != api.ErrFrame {
				t.Errorf("Put(%.20v, of %d) = of %d, %d", ahead, n, len(b), e)
			}
		}
	}
}

// P6.1: a payload is as long as its list is: its spare room is not of it.
func TestPutSpare(t *testing.T) {
	room := make([]byte, 2*api.MaxFrame)
	for _, n := range []int{0, 2, api.MaxFrame} {
		if b, e := Put(nil, room[:n]); !bytes.Equal(b, said(room[:n])) || e != api.OK {
			t.Errorf("of %d: of %d, %d", n, len(b), e)
		}
	}
}

// P6.2: payloads of each length, with whatever behind.
func TestTake(t *testing.T) {
	for _, p := range payloads() {
		for _, behind := range tails() {
			got, rest, e := Take(slices.Concat(said(p), behind))
			if !bytes.Equal(got, p) || !bytes.Equal(rest, behind) || e != api.OK {
				t.Errorf("of %d, and %.20v behind: of %d, %.20v, %d", len(p), behind, len(got), rest, e)
			}
		}
	}
}

// P6.2, P6.3: no bytes at all.
func TestEmpty(t *testing.T) {
	none(t, "nil", nil)
	none(t, "empty", []byte{})
	none(t, "empty, with a frame in its spare room", said(nil)[:0])
}

// P6.2, P6.3: bytes that are no frame, with whatever behind; what is behind is not looked for.
func TestNone(t *testing.T) {
	for name, b := range nones() {
		for _, behind := range tails() {
			none(t, name, slices.Concat(b, behind))
		}
	}
}

// P6.2: lengths that are greater than what is there, at all sizes of a length.
func TestTakeTooShort(t *testing.T) {
	for i := range 63 {
		for _, n := range []int{1<<i - 1, 1 << i, 1<<i + 1} {
			for _, there := range []int{0, 1, 3, 4, 5, 8, 40} {
				if n+4 > there {
					none(t, "too short", append(number(n), make([]byte, there)...))
				}
			}
		}
	}
}

// P6.2: a sum of which one byte, or more, is another one.
func TestTakeOtherSum(t *testing.T) {
	for _, p := range short() {
		whole := said(p)
		for i := 1; i <= 4; i++ {
			for x := 1; x < 256; x++ {
				b := bytes.Clone(whole)
				b[len(b)-i] ^= byte(x)
				none(t, "another sum", b)
			}
		}
		b := bytes.Clone(whole)
		slices.Reverse(b[len(b)-4:])
		none(t, "a sum the other way round", b)
	}
}

// P6.2, P6.3: all bytes of up to two, behind which a right sum stands, held against what is looked for.
func TestTakeAllShort(t *testing.T) {
	for x := range 256 {
		held(t, []byte{byte(x)})
		held(t, summed([]byte{byte(x)}))
		for y := range 256 {
			held(t, summed([]byte{byte(x), byte(y)}))
			if x < 4 && y < 4 {
				held(t, summed([]byte{byte(x), byte(y), 'a'}))
				held(t, summed([]byte{byte(x), byte(y), 2, 'a', 'b'}))
			}
		}
	}
}

// P6.2, P6.3: frames, and bytes, by a fixed chance: some whole, some changed, some cut.
func TestTakeChance(t *testing.T) {
	r := rand.New(rand.NewSource(63))
	for range 3000 {
		b := slices.Concat(said(some(r, r.Intn(8))), said(some(r, r.Intn(3))), some(r, r.Intn(4)))
		if r.Intn(3) == 0 {
			b[r.Intn(len(b))] = byte(r.Intn(4))
		}
		if r.Intn(3) == 0 {
			b = b[:r.Intn(len(b)+1)]
		}
		if r.Intn(5) == 0 {
			b = b[r.Intn(len(b)+1):]
		}
		held(t, b)
	}
}

// held holds what Take, and All, answer against what is looked for.
func held(t *testing.T, b []byte) {
	t.Helper()
	want, size, ok := looked(b)
	p, rest, e := Take(b)
	switch {
	case ok && (!bytes.Equal(p, want) || !bytes.Equal(rest, b[size:]) || e != api.OK):
		t.Fatalf("Take(%v) = %v, %v, %d, want %v", b, p, rest, e, want)
	case !ok && (len(p) != 0 || len(rest) != 0 || e != api.ErrFrame):
		t.Fatalf("Take(%v) = %v, %v, %d, want ErrFrame", b, p, rest, e)
	}
	var payloads [][]byte
	end := 0
	for ok {
		payloads = append(payloads, want)
		end += size
		want, size, ok = looked(b[end:])
	}
	all(t, "held", b, payloads, end)
}

// P6.3: payloads of each length, one behind the other, and each alone, with whatever is no frame behind.
func TestAll(t *testing.T) {
	b, _ := chain(payloads()...)
	all(t, "all", b, payloads(), len(b))
	for _, p := range payloads() {
		all(t, "one", said(p), [][]byte{p}, len(said(p)))
		all(t, "one, and bytes", append(said(p), 1), [][]byte{p}, len(said(p)))
		all(t, "three", slices.Concat(said(p), said(nil), said(p)), [][]byte{p, nil, p}, 2*len(said(p))+5)
	}
}

// P6.3: bytes that are no frame first, among others, and last: those ahead of them are told, and no more.
func TestAllNone(t *testing.T) {
	l := short()
	for name, no := range nones() {
		for i := range len(l) + 1 {
			ahead, _ := chain(l[:i]...)
			behind, _ := chain(l[i:]...)
			all(t, name, slices.Concat(ahead, no, behind), l[:i], len(ahead))
		}
	}
}

// P6.3: frames one behind the other, cut at every place, in the first one, among others and in the last one.
func TestAllCut(t *testing.T) {
	l := short()
	b, ends := chain(l...)
	for n := range len(b) + 1 {
		many, size := 0, 0
		for many < len(l) && ends[many] <= n {
			size = ends[many]
			many++
		}
		all(t, "cut, with the rest in its spare room", b[:n], l[:many], size)
		all(t, "cut", bytes.Clone(b[:n]), l[:many], size)
	}
}

// P6.3: long frames one behind the other, whose last one is cut.
func TestAllLastCut(t *testing.T) {
	l := payloads()
	ahead, _ := chain(l...)
	for _, p := range l {
		last := said(p)
		for _, n := range []int{1, len(last) / 2, len(last) - 5, len(last) - 4, len(last) - 1} {
			all(t, "the last one cut", slices.Concat(ahead, last[:n]), l, len(ahead))
		}
	}
}

// P6.3: as many as there are, in a time that does not grow with what is behind each of them.
func TestAllMany(t *testing.T) {
	const many = 400000
	b := bytes.Repeat(said(nil), many)
	if l, n := All(b); len(l) != many || n != len(b) {
		t.Errorf("%d, %d", len(l), n)
	}
	b = append(bytes.Repeat(said([]byte("ab")), many), 0, 1, 2)
	l, n := All(b)
	if len(l) != many || n != len(b)-3 {
		t.Errorf("%d, %d", len(l), n)
	}
	for _, p := range l {
		if string(p) != "ab" {
			t.Fatalf("%q", p)
		}
	}
}

// P6.4: what was put, one behind the other, is taken again, whatever stands behind.
func TestAgain(t *testing.T) {
	for _, behind := range tails() {
		var b []byte
		var e api.Errno
		for _, p := range payloads() {
			if b, e = Put(b, p); e != api.OK {
				t.Fatal(e)
			}
		}
		size := len(b)
		b = append(b, behind...)
		l, n := All(b)
		if len(l) < len(payloads()) || n < size || !slices.EqualFunc(l[:len(payloads())], payloads(), bytes.Equal) {
			t.Fatalf("%.20v behind: %d payloads, %d bytes", behind, len(l), n)
		}
		for i, want := range payloads() {
			var p []byte
			if p, b, e = Take(b); !bytes.Equal(p, want) || e != api.OK {
				t.Fatalf("%d: of %d, %d", i, len(p), e)
			}
		}
		if !bytes.Equal(b, behind) {
			t.Errorf("%.20v behind, want %.20v", b, behind)
		}
	}
}

// P6.4: what was put is taken again at each length of some, and at each byte.
func TestAgainEachLength(t *testing.T) {
	r := rand.New(rand.NewSource(64))
	for n := range 600 {
		want := some(r, n)
		b, e := Put([]byte("ahead"), want)
		if e != api.OK {
			t.Fatal(e)
		}
		if p, rest, e := Take(append(b[5:], "behind"...)); !bytes.Equal(p, want) || string(rest) != "behind" || e != api.OK {
			t.Errorf("of %d: of %d, %q, %d", n, len(p), rest, e)
		}
	}
}

// P6.4: no beginning of a frame, but the whole, is one: cut at every place, with the rest in its spare room too.
func TestCut(t *testing.T) {
	for _, p := range payloads() {
		whole, e := Put(nil, p)
		if e != api.OK {
			t.Fatal(e)
		}
		for n := range len(whole) {
			none(t, "cut, with the rest in its spare room", whole[:n])
			if n < 300 || n > len(whole)-10 {
				none(t, "cut", bytes.Clone(whole[:n]))
			}
		}
	}
}

// P6.4: no frame begins with another one.
func TestApart(t *testing.T) {
	l := payloads()
	var frames [][]byte
	for _, p := range l {
		b, _ := Put(nil, p)
		frames = append(frames, b)
	}
	for i, a := range frames {
		for j, b := range frames {
			if !bytes.Equal(l[i], l[j]) && bytes.HasPrefix(a, b) {
				t.Errorf("payloads of %d and %d bytes: of %d, of %d", len(l[i]), len(l[j]), len(a), len(b))
			}
		}
	}
}

// changed is bytes with those bits changed that mask has, from a bit on; a byte's bits stand
// the lowest first, as sums take them.
func changed(b []byte, from int, mask uint32) []byte {
	out := bytes.Clone(b)
	for i := range 32 {
		if mask>>i&1 == 1 {
			out[(from+i)/8] ^= 1 << ((from + i) % 8)
		}
	}
	return out
}

// masks are changes of up to 32 bits in a row: all of up to 7, and of each length above some by chance,
// beside the one of all bits, and the one of both ends alone.
func masks(r *rand.Rand) []uint32 {
	var l []uint32
	for m := uint32(1); m < 1<<7; m += 2 {
		l = append(l, m)
	}
	for n := 8; n <= 32; n++ {
		ends := uint32(1)<<(n-1) | 1
		inner := uint32(1)<<(n-1) - 1
		l = append(l, ends, ends|inner)
		for range 6 {
			l = append(l, ends|r.Uint32()&inner)
		}
	}
	return l
}

// P6.4: up to 32 bits in a row, changed, are seen, from each bit behind the length on up to the sum's last one.
func TestChanged(t *testing.T) {
	r := rand.New(rand.NewSource(65))
	l := masks(r)
	for _, p := range [][]byte{nil, {0}, {255}, []byte("ab"), said(nil), make([]byte, 20), some(r, 33)} {
		whole, e := Put(nil, p)
		if e != api.OK {
			t.Fatal(e)
		}
		for from := 8 * len(number(len(p))); from < 8*len(whole); from++ {
			for _, m := range l {
				if from+bits.Len32(m) <= 8*len(whole) {
					b := changed(whole, from, m)
					none(t, "changed", b)
					none(t, "changed, and a frame behind", append(b, whole...))
				}
			}
		}
	}
}

// P6.4: the same, of frames whose length has more bytes: at every place, with few of the changes, and at
// the first, the last and some among them, with all.
func TestChangedLong(t *testing.T) {
	r := rand.New(rand.NewSource(66))
	l := masks(r)
	for _, n := range []int{255, 256, 1000} {
		whole := said(some(r, n))
		first := 8 * len(number(n))
		for from := first; from < 8*len(whole); from++ {
			m := l[r.Intn(len(l))]
			last := 8*len(whole) - bits.Len32(m)
			none(t, "changed somewhere", changed(whole, min(from, last), m))
			none(t, "one bit changed", changed(whole, from, 1))
		}
	}
	for _, n := range []int{65536, api.MaxFrame} {
		whole := said(some(r, n))
		first := 8 * len(number(n))
		for _, m := range []uint32{1, 3, 0x80000001, 0xffffffff, r.Uint32() | 1} {
			last := 8*len(whole) - bits.Len32(m)
			for _, from := range []int{first, first + 1, first + 9, last / 2, last - 32, last - 8, last - 1, last} {
				none(t, "changed, of many bytes", changed(whole, from, m))
			}
		}
	}
}

// P6.4: a change in one of some frames ends all, there; those ahead of it are told.
func TestChangedAmong(t *testing.T) {
	r := rand.New(rand.NewSource(67))
	l := short()
	masks := masks(r)
	b, ends := chain(l...)
	for i, p := range l {
		start := ends[i] - len(said(p))
		for from := 8 * (start + len(number(len(p)))); from < 8*ends[i]; from++ {
			m := masks[r.Intn(len(masks))]
			from := min(from, 8*ends[i]-bits.Len32(m))
			all(t, "changed among others", changed(b, from, m), l[:i], start)
		}
	}
}

// inRoom is bytes with ahead and behind them others, all in one memory, and that memory.
func inRoom(b []byte) (room, part []byte) {
	room = slices.Concat([]byte("ahead"), b, []byte("spare room, of more bytes than a frame has beside its payload"), make([]byte, 400))
	return room, room[5 : 5+len(b)]
}

// fill changes all bytes that a list reaches, its spare room included.
func fill(b []byte) {
	b = b[:cap(b)]
	for i := range b {
		b[i] ^= 0x5a
	}
}

// taken are bytes that Take and All are asked of: without a frame, with one, with some, with a cut one.
func taken() [][]byte {
	whole, _ := chain(short()...)
	return append(tails(), whole, whole[:len(whole)-1], said([]byte("abc")), append(said([]byte("abc")), "behind"...), said(make([]byte, 1000)))
}

// calls are what each call answers of bytes, as lists, some of which may be empty.
func calls(b, p []byte) map[string]func() [][]byte {
	return map[string]func() [][]byte{
		"Put":             func() [][]byte { out, _ := Put(b, p); return [][]byte{out} },
		"Put of nothing":  func() [][]byte { out, _ := Put(b, nil); return [][]byte{out} },
		"Put of itself":   func() [][]byte { out, _ := Put(b, b); return [][]byte{out} },
		"Put of too many": func() [][]byte { out, _ := Put(b, make([]byte, api.MaxFrame+1)); return [][]byte{out} },
		"Take":            func() [][]byte { payload, rest, _ := Take(b); return [][]byte{payload, rest} },
		"All":             func() [][]byte { out, _ := All(b); return out },
	}
}

// copied is a list of lists in memory of its own.
func copied(l [][]byte) [][]byte {
	var out [][]byte
	for _, b := range l {
		out = append(out, bytes.Clone(b))
	}
	return out
}

// R3: what is handed in stays as it was, with its spare room, and no answer hangs on it later.
func TestHandedIn(t *testing.T) {
	for _, bytesIn := range taken() {
		room, b := inRoom(bytesIn)
		payloadRoom, p := inRoom([]byte("a payload"))
		was, payloadWas := bytes.Clone(room), bytes.Clone(payloadRoom)
		for name, answer := range calls(b, p) {
			out := answer()
			if !bytes.Equal(room, was) || !bytes.Equal(payloadRoom, payloadWas) {
				t.Fatalf("%s: what was handed in is changed", name)
			}
			kept := copied(out)
			fill(room)
			fill(payloadRoom)
			if !slices.EqualFunc(out, kept, bytes.Equal) {
				t.Fatalf("%s: the answer hangs on what was handed in", name)
			}
			fill(room)
			fill(payloadRoom)
			for _, l := range out {
				fill(l)
			}
			if !bytes.Equal(room, was) || !bytes.Equal(payloadRoom, payloadWas) {
				t.Fatalf("%s: the answer has memory of what was handed in", name)
			}
		}
	}
}

// R3, R4: no two lists of one answer, or of two, share memory; and the same is answered again.
func TestOwnMemory(t *testing.T) {
	for _, b := range taken() {
		for name, answer := range calls(b, []byte("a payload")) {
			out, other := answer(), answer()
			kept, was := copied(out), copied(out)
			if !slices.EqualFunc(other, was, bytes.Equal) {
				t.Fatalf("%s: another answer, the second time", name)
			}
			for i := range out {
				fill(out[i])
				kept[i] = bytes.Clone(out[i])
				if !slices.EqualFunc(out, kept, bytes.Equal) {
					t.Fatalf("%s: two lists of one answer share memory", name)
				}
			}
			if !slices.EqualFunc(other, was, bytes.Equal) || !slices.EqualFunc(answer(), was, bytes.Equal) {
				t.Fatalf("%s: two answers share memory", name)
			}
		}
	}
}

// R4: an answer does not hang on how much room its arguments have.
func TestNoCapacity(t *testing.T) {
	for _, bytesIn := range taken() {
		_, roomy := inRoom(bytesIn)
		_, p := inRoom([]byte("a payload"))
		tight := calls(slices.Clip(bytes.Clone(bytesIn)), []byte("a payload"))
		for name, answer := range calls(roomy, p) {
			if a, b := answer(), tight[name](); !slices.EqualFunc(a, b, bytes.Equal) {
				t.Errorf("%s of %.20v: %.20v, and %.20v", name, bytesIn, a, b)
			}
		}
	}
}
