package crc

import (
	"bytes"
	"hash/crc32"
	"math"
	"math/rand"
	"slices"
	"testing"
)

// behindSum is the one sum that all bytes have with the four bytes of their own sum behind.
const behindSum = 0x48674bc7

// said is the sum of bytes as the document says it, turn by turn.
func said(b []byte) uint32 {
	n := uint32(0xffffffff)
	for _, x := range b {
		n ^= uint32(x)
		for range 8 {
			wasOdd := n&1 == 1
			n >>= 1
			if wasOdd {
				n ^= 0x82f63b78
			}
		}
	}
	return n ^ 0xffffffff
}

// parts is texts as parts.
func parts(l ...string) [][]byte {
	var out [][]byte
	for _, s := range l {
		out = append(out, []byte(s))
	}
	return out
}

// some is so many bytes by a fixed chance.
func some(r *rand.Rand, n int) []byte {
	b := make([]byte, n)
	for i := range b {
		b[i] = byte(r.Intn(256))
	}
	return b
}

// shapes are bytes of many lengths: all 0, all 255, each value once, and some by chance.
func shapes() [][]byte {
	r := rand.New(rand.NewSource(4))
	each := make([]byte, 256)
	for i := range each {
		each[i] = byte(i)
	}
	l := [][]byte{nil, {}, []byte("123456789"), each}
	for n := 1; n <= 40; n++ {
		l = append(l, make([]byte, n), bytes.Repeat([]byte{255}, n), some(r, n))
	}
	for _, n := range []int{255, 256, 257, 1000, 65536, 100003} {
		l = append(l, some(r, n))
	}
	return l
}

// P4.1: sums that are known, the document's example, and the edges.
func TestSumKnown(t *testing.T) {
	for _, c := range []struct {
		name string
		l    [][]byte
		want uint32
	}{
		{"no parts at all", nil, 0},
		{"a list without parts", [][]byte{}, 0},
		{"one part that is nil", [][]byte{nil}, 0},
		{"one part without bytes", parts(""), 0},
		{"parts without bytes alone", [][]byte{nil, {}, nil, {}}, 0},
		{"the document's", parts("123456789"), 0xe3069283},
		{"parts without bytes among others", parts("", "1234", "", "", "56789", ""), 0xe3069283},
		{"a byte each", parts("1", "2", "3", "4", "5", "6", "7", "8", "9"), 0xe3069283},
		{"the parts the other way round", parts("6789", "12345"), said([]byte("678912345"))},
		{"one letter", parts("a"), 0xc1d04330},
		{"one byte 0", [][]byte{{0}}, 0x527d5351},
		{"32 bytes 0", [][]byte{make([]byte, 32)}, 0x8a9136aa},
		{"32 bytes 255", [][]byte{bytes.Repeat([]byte{255}, 32)}, 0x62a8ab43},
	} {
		if got := Sum(c.l...); got != c.want {
			t.Errorf("%s: %08x, not %08x", c.name, got, c.want)
		}
	}
}

// P4.1: one byte of each value, alone and behind another one of each value.
func TestSumEachByte(t *testing.T) {
	seen := map[uint32]int{}
	for a := range 256 {
		got := Sum([]byte{byte(a)})
		if want := said([]byte{byte(a)}); got != want {
			t.Errorf("%d: %08x, not %08x", a, got, want)
		}
		if other, ok := seen[got]; ok {
			t.Errorf("%d and %d have one sum", other, a)
		}
		seen[got] = a
		for b := range 256 {
			two := []byte{byte(a), byte(b)}
			if got, want := Sum(two), said(two); got != want {
				t.Fatalf("%v: %08x, not %08x", two, got, want)
			}
		}
	}
}

// P4.1: bytes of many lengths, held against the document's words and against the library's sum of this kind.
func TestSumShapes(t *testing.T) {
	table := crc32.MakeTable(crc32.Castagnoli)
	for i, b := range shapes() {
		got := Sum(b)
		if want := said(b); got != want {
			t.Errorf("%d, of %d bytes: %08x, not %08x", i, len(b), got, want)
		}
		if want := crc32.Checksum(b, table); got != want {
			t.Errorf("%d, of %d bytes: %08x, and the library's is %08x", i, len(b), got, want)
		}
	}
}

// P4.1: the order of bytes, and how many there are, are in the sum.
func TestSumOrder(t *testing.T) {
	if a, b := Sum(parts("ab")...), Sum(parts("ba")...); a == b {
		t.Errorf("ab and ba: %08x", a)
	}
	if a, b := Sum(parts("a", "b")...), Sum(parts("b", "a")...); a == b {
		t.Errorf("a, b and b, a: %08x", a)
	}
	seen := map[uint32]int{}
	for n := range 300 {
		s := Sum(make([]byte, n))
		if other, ok := seen[s]; ok {
			t.Errorf("%d and %d bytes 0: %08x", other, n, s)
		}
		seen[s] = n
	}
}

// P4.2: the edges of numbers, and one whose bytes are all different.
func TestBytesKnown(t *testing.T) {
	for _, c := range []struct {
		n    uint32
		want [4]byte
	}{
		{0, [4]byte{}},
		{1, [4]byte{1, 0, 0, 0}},
		{0xff, [4]byte{0xff, 0, 0, 0}},
		{0x100, [4]byte{0, 1, 0, 0}},
		{0x10000, [4]byte{0, 0, 1, 0}},
		{0x1000000, [4]byte{0, 0, 0, 1}},
		{0x80000000, [4]byte{0, 0, 0, 0x80}},
		{0x7fffffff, [4]byte{0xff, 0xff, 0xff, 0x7f}},
		{0x01020304, [4]byte{4, 3, 2, 1}},
		{0xe3069283, [4]byte{0x83, 0x92, 0x06, 0xe3}},
		{math.MaxUint32 - 1, [4]byte{0xfe, 0xff, 0xff, 0xff}},
		{math.MaxUint32, [4]byte{0xff, 0xff, 0xff, 0xff}},
	} {
		if got := Bytes(c.n); got != c.want {
			t.Errorf("%08x: %v, not %v", c.n, got, c.want)
		}
	}
}

// P4.2: the four bytes of a number make it again, at each bit and at numbers by a fixed chance.
func TestBytesAgain(t *testing.T) {
	r := rand.New(rand.NewSource(42))
	var l []uint32
	for i := range 32 {
		l = append(l, 1<<i, ^uint32(1<<i))
	}
	for range 1000 {
		l = append(l, r.Uint32())
	}
	for _, n := range l {
		var again, worth uint32 = 0, 1
		for _, b := range Bytes(n) {
			again += uint32(b) * worth
			worth *= 256
		}
		if again != n {
			t.Errorf("%08x: %v", n, Bytes(n))
		}
	}
}

// P4.3: one sum, in whatever way the bytes are parted: each set of places to part them at.
func TestParted(t *testing.T) {
	whole := []byte("0\x00\xff9abc\x80\x01")
	want := said(whole)
	for cuts := range 1 << (len(whole) - 1) {
		var l [][]byte
		from := 0
		for i := range len(whole) - 1 {
			if cuts>>i&1 == 1 {
				l = append(l, whole[from:i+1])
				from = i + 1
			}
		}
		l = append(l, whole[from:])
		if got := Sum(l...); got != want {
			t.Fatalf("%q: %08x, not %08x", l, got, want)
		}
		// Parts without bytes at both ends and between each two change nothing.
		spaced := [][]byte{nil}
		for _, p := range l {
			spaced = append(spaced, p, []byte{})
		}
		if got := Sum(spaced...); got != want {
			t.Fatalf("%q: %08x, not %08x", spaced, got, want)
		}
	}
}

// P4.3: long bytes, in two parts, at each place.
func TestPartedLong(t *testing.T) {
	whole := some(rand.New(rand.NewSource(43)), 600)
	want := said(whole)
	for i := range len(whole) + 1 {
		if got := Sum(whole[:i], whole[i:]); got != want {
			t.Errorf("parted at %d: %08x, not %08x", i, got, want)
		}
	}
}

// P4.3: bytes with the four bytes of their sum behind have one sum, in two parts and in one.
func TestSumBehind(t *testing.T) {
	for i, b := range shapes() {
		four := Bytes(Sum(b))
		if got := Sum(b, four[:]); got != behindSum {
			t.Errorf("%d, of %d bytes: %08x", i, len(b), got)
		}
		if got := Sum(slices.Concat(b, four[:])); got != behindSum {
			t.Errorf("%d, of %d bytes, as one part: %08x", i, len(b), got)
		}
	}
}

// changed is bytes with those bits changed that mask has, from a bit on; a byte's bits stand
// the lowest first, as turns take them.
func changed(b []byte, from int, mask uint32) []byte {
	out := slices.Clone(b)
	for i := range 32 {
		if mask>>i&1 == 1 {
			out[(from+i)/8] ^= 1 << ((from + i) % 8)
		}
	}
	return out
}

// masks are changes of up to 32 bits in a row: all of up to 10, and of each length above some
// by chance, beside the one of all bits, and the one of both ends alone.
func masks(r *rand.Rand) []uint32 {
	var l []uint32
	for m := uint32(1); m < 1<<10; m += 2 {
		l = append(l, m)
	}
	for n := 11; n <= 32; n++ {
		ends := uint32(1)<<(n-1) | 1
		inner := uint32(1)<<(n-1) - 1
		l = append(l, ends, ends|inner)
		for range 20 {
			l = append(l, ends|r.Uint32()&inner)
		}
	}
	return l
}

// length is how many bits a mask reaches over.
func length(mask uint32) int {
	n := 0
	for ; mask > 0; mask >>= 1 {
		n++
	}
	return n
}

// P4.3: up to 32 bits in a row, changed, change the sum: from each bit of some bytes on, with the
// beginning, the middle and the end among them.
func TestChanged(t *testing.T) {
	r := rand.New(rand.NewSource(44))
	l := masks(r)
	for _, n := range []int{1, 2, 4, 5, 12} {
		b := some(r, n)
		want := Sum(b)
		for from := range 8 * n {
			for _, m := range l {
				if from+length(m) > 8*n {
					continue
				}
				if got := Sum(changed(b, from, m)); got == want {
					t.Fatalf("%v, changed by %08x from bit %d on: %08x still", b, m, from, got)
				}
			}
		}
	}
}

// P4.3: the same, of bytes that are long, and of what has its own sum behind, which is changed too.
func TestChangedLong(t *testing.T) {
	r := rand.New(rand.NewSource(45))
	b := some(r, 1000)
	four := Bytes(Sum(b))
	b = append(b, four[:]...)
	for _, m := range masks(r) {
		last := 8*len(b) - length(m)
		for _, from := range []int{0, 1, 7, 8, last / 2, last/2 + 3, last - 8, last - 1, last} {
			if got := Sum(changed(b, from, m)); got == behindSum {
				t.Fatalf("changed by %08x from bit %d on: %08x still", m, from, got)
			}
		}
	}
}

// P4.3: each change of four bytes makes a sum of its own: no two of many have one.
func TestFourBytesApart(t *testing.T) {
	seen := map[uint32]uint32{}
	for i := range uint32(1 << 16) {
		n := i * 0x9e3779b1 // odd, so that no two are the same
		four := Bytes(n)
		s := Sum([]byte("ahead"), four[:], []byte("behind"))
		if other, ok := seen[s]; ok {
			t.Fatalf("%08x and %08x: %08x", other, n, s)
		}
		seen[s] = n
	}
}

// R3: bytes that are handed in stay as they were, with their spare room, and so does the list of them.
func TestHandedIn(t *testing.T) {
	room := some(rand.New(rand.NewSource(46)), 64)
	was := slices.Clone(room)
	list := [][]byte{room[0:10], room[10:10], room[20:30], nil, room[5:25]}
	lengths := []int{10, 0, 10, 0, 20}
	want := said(slices.Concat(list...))
	for range 2 {
		if got := Sum(list...); got != want {
			t.Errorf("%08x, not %08x", got, want)
		}
	}
	// A part that was cut short hands in nothing of what its memory holds behind.
	if got, want := Sum(list[:2]...), said(was[:10]); got != want {
		t.Errorf("cut short: %08x, not %08x", got, want)
	}
	if !bytes.Equal(room, was) {
		t.Error("the bytes are not as they were")
	}
	for i, p := range list {
		if len(p) != lengths[i] {
			t.Errorf("part %d has %d bytes", i, len(p))
		}
	}
	if &list[0][0] != &room[0] || &list[2][0] != &room[20] || &list[4][0] != &room[5] {
		t.Error("the list of parts is not as it was")
	}
}

// R3: what is answered is new: no later call, and no change of it, reaches another one.
func TestAnswerIsNew(t *testing.T) {
	a := Bytes(0x01020304)
	b := a
	a[0] = 9
	if b != Bytes(0x01020304) {
		t.Errorf("%v", b)
	}
	part := []byte("123456789")
	first := Sum(part)
	part[0] = 'x'
	if Sum(part) == first {
		t.Error("a part was kept")
	}
}
