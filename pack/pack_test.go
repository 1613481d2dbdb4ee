package pack

import (
	"bytes"
	"math"
	"math/big"
	"math/rand"
	"slices"
	"testing"

	"lumper/api"
)

const (
	least    = math.MinInt
	greatest = math.MaxInt
)

// said is the bytes of a number that is not below 0, as the document says them.
func said(n int) []byte {
	held := big.NewInt(int64(n)).Bytes()
	return append([]byte{byte(len(held))}, held...)
}

// saidText is the bytes of a text, as the document says them.
func saidText(t []byte) []byte { return slices.Concat(said(len(t)), t) }

// looked is the number whose bytes b begins with, and how many these are, as the document says it:
// a number whose bytes they are is looked for.
func looked(b []byte) (n, size int, ok bool) {
	if len(b) == 0 || int(b[0]) > 8 || len(b) < 1+int(b[0]) {
		return 0, 0, false
	}
	size = 1 + int(b[0])
	exact := new(big.Int).SetBytes(b[1:size])
	if !exact.IsInt64() || !bytes.Equal(said(int(exact.Int64())), b[:size]) {
		return 0, 0, false
	}
	return int(exact.Int64()), size, true
}

// edges are the numbers at which one byte more is needed, and some about each; those of each bit; and the greatest ones.
func edges() []int {
	var l []int
	for i := range 63 {
		for d := -2; d <= 2; d++ {
			l = append(l, 1<<i+d, greatest-1<<i+d)
		}
	}
	l = append(l, 0, 258, 0x0102030405060708, greatest-2, greatest-1, greatest)
	l = slices.DeleteFunc(l, func(n int) bool { return n < 0 })
	slices.Sort(l)
	return slices.Compact(l)
}

// below are numbers below 0, whose lower bytes look like those of numbers that are not, too.
func below() []int {
	return []int{-1, -2, -128, -255, -256, -257, -1 << 31, -1 << 32, least + 255, least + 1, least}
}

// texts are without bytes, short, and as long as those whose length needs one byte more, and those just below.
func texts() [][]byte {
	r := rand.New(rand.NewSource(5))
	l := [][]byte{nil, {}, {0}, {1}, {8}, {255}, []byte("abc"), {1, 2, 'a', 'b'}, {0, 0, 0}}
	for _, n := range []int{2, 9, 254, 255, 256, 257, 65535, 65536, 70001} {
		l = append(l, make([]byte, n), some(r, n))
	}
	return l
}

// some is so many bytes by a fixed chance.
func some(r *rand.Rand, n int) []byte {
	b := make([]byte, n)
	for i := range b {
		b[i] = byte(r.Intn(256))
	}
	return b
}

// tails are what may stand ahead, and behind: nothing, bytes that look like numbers, and others.
func tails() [][]byte {
	return [][]byte{nil, {}, {0}, {1}, {1, 7}, {8, 255}, {9}, {255, 255, 255}, []byte("any bytes"), make([]byte, 300)}
}

// none tells of Take and TakeText whether b has neither a number nor a text, and nothing is answered beside.
func none(t *testing.T, b []byte) {
	t.Helper()
	if n, rest, e := Take(b); n != 0 || len(rest) != 0 || e != api.ErrPack {
		t.Errorf("Take(%v) = %d, %v, %d", b, n, rest, e)
	}
	noText(t, b)
}

func noText(t *testing.T, b []byte) {
	t.Helper()
	if text, rest, e := TakeText(b); len(text) != 0 || len(rest) != 0 || e != api.ErrPack {
		t.Errorf("TakeText(%.20v, of %d) = %d bytes, %d behind, %d", b, len(b), len(text), len(rest), e)
	}
}

// known are numbers with their bytes written out, the document's example among them.
func known() map[int][]byte {
	return map[int][]byte{
		0:                  {0},
		1:                  {1, 1},
		127:                {1, 127},
		128:                {1, 128},
		255:                {1, 255},
		256:                {2, 1, 0},
		258:                {2, 1, 2},
		1<<16 - 1:          {2, 255, 255},
		1 << 16:            {3, 1, 0, 0},
		1<<24 - 1:          {3, 255, 255, 255},
		1 << 24:            {4, 1, 0, 0, 0},
		1<<31 - 1:          {4, 127, 255, 255, 255},
		1<<32 - 1:          {4, 255, 255, 255, 255},
		1 << 32:            {5, 1, 0, 0, 0, 0},
		1<<40 - 1:          {5, 255, 255, 255, 255, 255},
		1 << 40:            {6, 1, 0, 0, 0, 0, 0},
		1<<48 - 1:          {6, 255, 255, 255, 255, 255, 255},
		1 << 48:            {7, 1, 0, 0, 0, 0, 0, 0},
		1<<56 - 1:          {7, 255, 255, 255, 255, 255, 255, 255},
		1 << 56:            {8, 1, 0, 0, 0, 0, 0, 0, 0},
		0x0102030405060708: {8, 1, 2, 3, 4, 5, 6, 7, 8},
		greatest - 1:       {8, 127, 255, 255, 255, 255, 255, 255, 254},
		greatest:           {8, 127, 255, 255, 255, 255, 255, 255, 255},
	}
}

// P5.1, P5.2: numbers whose bytes are known, put, taken, and counted.
func TestKnown(t *testing.T) {
	for n, want := range known() {
		if b, e := Put(nil, n); !bytes.Equal(b, want) || e != api.OK {
			t.Errorf("Put(nil, %d) = %v, %d, want %v", n, b, e, want)
		}
		if size := Size(n); size != len(want) {
			t.Errorf("Size(%d) = %d, want %d", n, size, len(want))
		}
		if got, rest, e := Take(want); got != n || len(rest) != 0 || e != api.OK {
			t.Errorf("Take(%v) = %d, %v, %d, want %d", want, got, rest, e, n)
		}
	}
}

// P5.1: the document's example, one behind the other.
func TestExample(t *testing.T) {
	if b, e := Put(nil, 0, 258); !bytes.Equal(b, []byte{0, 2, 1, 2}) || e != api.OK {
		t.Errorf("%v, %d", b, e)
	}
	if b, e := Put(nil, 258, 0); !bytes.Equal(b, []byte{2, 1, 2, 0}) || e != api.OK {
		t.Errorf("%v, %d", b, e)
	}
}

// P5.1: each edge, behind whatever there is, alone and with others.
func TestPut(t *testing.T) {
	for _, ahead := range tails() {
		for _, n := range edges() {
			if b, e := Put(ahead, n); !bytes.Equal(b, slices.Concat(ahead, said(n))) || e != api.OK {
				t.Fatalf("Put(%v, %d) = %v, %d", ahead, n, b, e)
			}
			b, e := Put(ahead, n, 0, 7, n)
			want := slices.Concat(ahead, said(n), []byte{0, 1, 7}, said(n))
			if !bytes.Equal(b, want) || e != api.OK {
				t.Fatalf("Put(%v, %d, 0, 7, %d) = %v, %d", ahead, n, n, b, e)
			}
		}
	}
}

// P5.1: no numbers at all, and all edges at once.
func TestPutNoneAndMany(t *testing.T) {
	for _, ahead := range tails() {
		for _, l := range [][]int{nil, {}} {
			if b, e := Put(ahead, l...); !bytes.Equal(b, ahead) || e != api.OK {
				t.Errorf("Put(%v) = %v, %d", ahead, b, e)
			}
		}
		want := slices.Clone(ahead)
		for _, n := range edges() {
			want = append(want, said(n)...)
		}
		if b, e := Put(ahead, edges()...); !bytes.Equal(b, want) || e != api.OK {
			t.Errorf("Put(%v, ..) = %v, %d", ahead, b, e)
		}
	}
	if b, e := Put(nil); len(b) != 0 || e != api.OK {
		t.Errorf("Put(nil) = %v, %d", b, e)
	}
}

// P5.1: numbers below 0, alone, first, last and among others: nothing is answered beside the error.
func TestPutBelow(t *testing.T) {
	for _, n := range below() {
		for _, l := range [][]int{{n}, {n, 1, 2}, {1, 2, n}, {1, n, 2}, {0, n}, {n, 0}, {greatest, n, greatest}, {n, n}, {5, n, least}} {
			for _, ahead := range tails() {
				if b, e := Put(ahead, l...); len(b) != 0 || e != api.ErrPack {
					t.Errorf("Put(%v, %v) = %v, %d", ahead, l, b, e)
				}
			}
		}
		if size := Size(n); size != 0 {
			t.Errorf("Size(%d) = %d", n, size)
		}
	}
}

// P5.1: Size is how many bytes there are.
func TestSize(t *testing.T) {
	for _, n := range edges() {
		if size := Size(n); size != len(said(n)) {
			t.Errorf("Size(%d) = %d, want %d", n, size, len(said(n)))
		}
	}
	for i := range 8 {
		if size := Size(1<<(8*i) - 1); size != i+1 {
			t.Errorf("below byte %d: %d", i, size)
		}
		if size := Size(1 << (8 * i)); size != i+2 {
			t.Errorf("at byte %d: %d", i, size)
		}
	}
}

// P5.2: each edge, with whatever behind.
func TestTake(t *testing.T) {
	for _, behind := range tails() {
		for _, n := range edges() {
			b := slices.Concat(said(n), behind)
			if got, rest, e := Take(b); got != n || !bytes.Equal(rest, behind) || e != api.OK {
				t.Fatalf("Take(%v) = %d, %v, %d, want %d", b, got, rest, e, n)
			}
		}
	}
}

// P5.2, P5.3: bytes that are empty, and those whose first one is above 8, however many follow.
func TestTakeFirst(t *testing.T) {
	none(t, nil)
	none(t, []byte{})
	for x := 9; x <= 255; x++ {
		for _, n := range []int{0, 1, 7, 8, 9, 10, x - 1, x, x + 1, 300} {
			none(t, append([]byte{byte(x)}, make([]byte, n)...))
			none(t, append([]byte{byte(x)}, bytes.Repeat([]byte{1}, n)...))
			// A number of fewer bytes, with bytes 0 ahead of it up to the asked ones.
			none(t, append(append([]byte{byte(x)}, make([]byte, n)...), 1, 2, 3))
		}
	}
}

// P5.2, P5.3: bytes that end too early, at every place.
func TestTakeCut(t *testing.T) {
	for _, n := range edges() {
		whole := said(n)
		for i := range len(whole) {
			none(t, whole[:i])
			none(t, whole[:i:i])
		}
	}
}

// P5.2, P5.3: numbers whose bytes are not as few as hold them.
func TestTakeNotFew(t *testing.T) {
	for _, n := range edges() {
		held := said(n)[1:]
		for need := len(held) + 1; need <= 8; need++ {
			b := slices.Concat([]byte{byte(need)}, make([]byte, need-len(held)), held)
			none(t, b)
			none(t, append(b, 5, 5, 5))
		}
	}
}

// P5.2, P5.3: eight bytes that are too great for a number.
func TestTakeTooGreat(t *testing.T) {
	for first := 128; first <= 255; first++ {
		for _, x := range []byte{0, 1, 127, 128, 255} {
			b := append([]byte{8, byte(first)}, bytes.Repeat([]byte{x}, 7)...)
			none(t, b)
			none(t, append(b, 1, 2, 3))
		}
	}
}

// P5.2: all bytes of up to two, and many of three, held against what is looked for.
func TestTakeAllShort(t *testing.T) {
	for x := range 256 {
		held(t, []byte{byte(x)})
		for y := range 256 {
			held(t, []byte{byte(x), byte(y)})
			for _, z := range []byte{0, 1, 2, 8, 9, 127, 128, 255} {
				held(t, []byte{byte(x), byte(y), z})
			}
		}
	}
}

// P5.2: bytes by a fixed chance, most of which begin with how many a number may need.
func TestTakeChance(t *testing.T) {
	r := rand.New(rand.NewSource(52))
	for range 50000 {
		b := some(r, r.Intn(14))
		if len(b) > 0 {
			b[0] %= 11
		}
		for i := 1; i < len(b) && r.Intn(3) == 0; i++ {
			b[i] = 0
		}
		held(t, b)
	}
}

// held holds what Take answers against what is looked for.
func held(t *testing.T, b []byte) {
	t.Helper()
	want, size, ok := looked(b)
	n, rest, e := Take(b)
	switch {
	case ok && (n != want || !bytes.Equal(rest, b[size:]) || e != api.OK):
		t.Fatalf("Take(%v) = %d, %v, %d, want %d", b, n, rest, e, want)
	case !ok && (n != 0 || len(rest) != 0 || e != api.ErrPack):
		t.Fatalf("Take(%v) = %d, %v, %d, want ErrPack", b, n, rest, e)
	}
}

// P5.3: texts, behind whatever there is, and taken again with whatever behind.
func TestTexts(t *testing.T) {
	for _, text := range texts() {
		for _, tail := range tails() {
			if b := Text(tail, text); !bytes.Equal(b, slices.Concat(tail, saidText(text))) {
				t.Errorf("Text(%v, of %d) = %.20v, of %d", tail, len(text), b, len(b))
			}
			got, rest, e := TakeText(slices.Concat(saidText(text), tail))
			if !bytes.Equal(got, text) || !bytes.Equal(rest, tail) || e != api.OK {
				t.Errorf("TakeText(of %d, and %v) = of %d, %v, %d", len(text), tail, len(got), rest, e)
			}
		}
	}
}

// P5.3: texts whose bytes are known.
func TestTextsKnown(t *testing.T) {
	for _, c := range []struct{ ahead, text, want string }{
		{"", "", "\x00"},
		{"x", "", "x\x00"},
		{"", "a", "\x01\x01a"},
		{"x", "abc", "x\x01\x03abc"},
		{"\x01", "\x00", "\x01\x01\x01\x00"},
		{"", string(make([]byte, 255)), "\x01\xff" + string(make([]byte, 255))},
		{"", string(make([]byte, 256)), "\x02\x01\x00" + string(make([]byte, 256))},
	} {
		if b := Text([]byte(c.ahead), []byte(c.text)); string(b) != c.want {
			t.Errorf("Text(%q, %q) = %q, want %q", c.ahead, c.text, b, c.want)
		}
		text, rest, e := TakeText([]byte(c.want[len(c.ahead):] + "yz"))
		if string(text) != c.text || string(rest) != "yz" || e != api.OK {
			t.Errorf("%q: %q, %q, %d", c.want, text, rest, e)
		}
	}
}

// P5.3: texts that are cut, at every place of short ones, and at some of long ones.
func TestTextsCut(t *testing.T) {
	for _, text := range texts() {
		whole := saidText(text)
		for i := 0; i < len(whole); i += 1 + len(whole)/400 {
			noText(t, whole[:i])
		}
		noText(t, whole[:len(whole)-1])
	}
}

// P5.3: a text is looked for with its size alone: spare room behind is not of it.
func TestTextsSpare(t *testing.T) {
	room := []byte{1, 3, 'a', 'b', 'c', 'd'}
	noText(t, room[:4])
	if text, rest, e := TakeText(room[:5]); string(text) != "abc" || len(rest) != 0 || e != api.OK {
		t.Errorf("%q, %q, %d", text, rest, e)
	}
}

// P5.3: sizes that are greater than what is there, the greatest ones too, which go over with the bytes ahead.
func TestTextsTooLong(t *testing.T) {
	for _, n := range edges() {
		for _, there := range []int{0, 1, 2, 30} {
			if n > there {
				noText(t, append(said(n), make([]byte, there)...))
			}
		}
	}
	for n := greatest - 40; n < greatest; n++ {
		noText(t, append(said(n), make([]byte, 40)...))
	}
}

// P5.4: what was put is taken again, one behind the other, whatever stands behind.
func TestAgain(t *testing.T) {
	r := rand.New(rand.NewSource(54))
	for _, behind := range tails() {
		l := edges()
		for range 200 {
			l = append(l, r.Int()>>r.Intn(63))
		}
		r.Shuffle(len(l), func(i, j int) { l[i], l[j] = l[j], l[i] })
		b, e := Put(nil, l...)
		if e != api.OK {
			t.Fatal(e)
		}
		b = append(b, behind...)
		for _, want := range l {
			var n int
			if n, b, e = Take(b); n != want || e != api.OK {
				t.Fatalf("%d, %d, want %d", n, e, want)
			}
		}
		if !bytes.Equal(b, behind) {
			t.Errorf("%v behind, want %v", b, behind)
		}
	}
}

// P5.4: texts and numbers, mixed, are taken again.
func TestAgainMixed(t *testing.T) {
	var b []byte
	var e api.Errno
	for i, text := range texts() {
		if b, e = Put(Text(b, text), i, greatest-i); e != api.OK {
			t.Fatal(e)
		}
	}
	b = append(b, "behind"...)
	for i, want := range texts() {
		var text []byte
		if text, b, e = TakeText(b); !bytes.Equal(text, want) || e != api.OK {
			t.Fatalf("%d: of %d, %d", i, len(text), e)
		}
		for _, want := range []int{i, greatest - i} {
			var n int
			if n, b, e = Take(b); n != want || e != api.OK {
				t.Fatalf("%d: %d, %d", i, n, e)
			}
		}
	}
	if string(b) != "behind" {
		t.Errorf("%q", b)
	}
}

// P5.4: no number's bytes begin with another one's.
func TestApart(t *testing.T) {
	l := edges()
	var all [][]byte
	for _, n := range l {
		b, _ := Put(nil, n)
		all = append(all, b)
	}
	for i, a := range all {
		for j, b := range all {
			if i != j && bytes.HasPrefix(a, b) {
				t.Errorf("%d and %d: %v, %v", l[i], l[j], a, b)
			}
		}
	}
}

// inRoom is bytes with ahead and behind them others, all in one memory, and that memory.
func inRoom(b []byte) (room, part []byte) {
	room = slices.Concat([]byte("ahead"), b, []byte("spare room, of more bytes than any number has"))
	return room, room[5 : 5+len(b)]
}

// fill changes all bytes that a list reaches, its spare room included.
func fill(b []byte) {
	b = b[:cap(b)]
	for i := range b {
		b[i] ^= 0x5a
	}
}

// R3: neither Put nor Text changes what is handed in, or answers of its memory.
func TestWritersOwnMemory(t *testing.T) {
	for _, ahead := range tails() {
		room, b := inRoom(ahead)
		textRoom, text := inRoom([]byte("some text"))
		was, textWas := slices.Clone(room), slices.Clone(textRoom)
		numbers := []int{3, 300, greatest, 9, 9}
		same := func(call string) {
			t.Helper()
			if !bytes.Equal(room, was) || !bytes.Equal(textRoom, textWas) || !slices.Equal(numbers, []int{3, 300, greatest, 9, 9}) {
				t.Fatalf("%s: what was handed in is changed", call)
			}
		}
		for call, answer := range map[string]func() []byte{
			"Put":             func() []byte { out, _ := Put(b, numbers[:3]...); return out },
			"Put of none":     func() []byte { out, _ := Put(b); return out },
			"Put of one":      func() []byte { out, _ := Put(b, 0); return out },
			"Put below":       func() []byte { out, _ := Put(b, 1, 300, -1); return out },
			"Text":            func() []byte { return Text(b, text) },
			"Text of nothing": func() []byte { return Text(b, nil) },
			"Text of itself":  func() []byte { return Text(b, b) },
		} {
			out := answer()
			same(call)
			kept := slices.Clone(out)
			fill(room)
			fill(textRoom)
			if !bytes.Equal(out, kept) {
				t.Fatalf("%s: the answer hangs on what was handed in", call)
			}
			fill(room)
			fill(textRoom)
			other := answer()
			fill(out)
			same(call)
			if !bytes.Equal(other, kept) {
				t.Fatalf("%s: two answers share memory", call)
			}
		}
	}
}

// R3: neither Take nor TakeText changes what is handed in, or answers of its memory, and a text shares none with what is behind it.
func TestTakersOwnMemory(t *testing.T) {
	for _, head := range [][]byte{{}, {1}, {0}, {2, 1, 2}, {1, 5}, {1, 4, 'a', 'b', 'c', 'd'}, {1, 200}, {2, 0, 1}, {9}} {
		for _, behind := range []string{"", "b", "behind, and more"} {
			room, b := inRoom(append(slices.Clone(head), behind...))
			was := slices.Clone(room)
			_, rest, _ := Take(b)
			text, textRest, _ := TakeText(b)
			if !bytes.Equal(room, was) {
				t.Fatalf("%v: what was handed in is changed", b)
			}
			lists := [][]byte{rest, text, textRest}
			for i, l := range lists {
				kept := [][]byte{slices.Clone(rest), slices.Clone(text), slices.Clone(textRest)}
				fill(l)
				if !bytes.Equal(room, was) {
					t.Fatalf("%v: list %d of the answers is of what was handed in", b, i)
				}
				for j := range lists {
					if j != i && !bytes.Equal(lists[j], kept[j]) {
						t.Fatalf("%v: lists %d and %d of the answers share memory", b, i, j)
					}
				}
			}
		}
	}
}

// R4: spare room of what is handed in does not tell what is answered.
func TestCapacity(t *testing.T) {
	for _, b := range [][]byte{nil, {0}, {1}, {1, 9}, {1, 2, 'a', 'b', 'c'}, {8, 127}} {
		_, roomy := inRoom(b)
		tight := slices.Clip(slices.Clone(b))
		n, rest, e := Take(roomy)
		if m, other, f := Take(tight); n != m || !bytes.Equal(rest, other) || e != f {
			t.Errorf("Take(%v): %d, %v, %d and %d, %v, %d", b, n, rest, e, m, other, f)
		}
		text, rest, e := TakeText(roomy)
		if same, other, f := TakeText(tight); !bytes.Equal(text, same) || !bytes.Equal(rest, other) || e != f {
			t.Errorf("TakeText(%v): %v, %v, %d and %v, %v, %d", b, text, rest, e, same, other, f)
		}
		a, _ := Put(roomy, 300)
		if c, _ := Put(tight, 300); !bytes.Equal(a, c) {
			t.Errorf("Put(%v): %v and %v", b, a, c)
		}
		if a, c := Text(roomy, roomy), Text(tight, tight); !bytes.Equal(a, c) {
			t.Errorf("Text(%v): %v and %v", b, a, c)
		}
	}
}
