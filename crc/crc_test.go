package crc_test

import (
	"bytes"
	"math"
	"slices"
	"testing"

	"waggoner/api"
	"waggoner/crc"
)

// sums are such as a text may go on from, and to be joined.
var sums = []uint32{0, 1, 2, 3, 0x80000000, 0x7fffffff, 0xe3069283, 0x82f63b78, 0x01234567, 0xfedcba98, 0xfffffffe, 0xffffffff}

// published are sums that stand in the chapter and in RFC 3720, B.4.
var published = []struct {
	text []byte
	sum  uint32
}{
	{nil, 0},
	{[]byte{}, 0},
	{[]byte("123456789"), 0xe3069283},
	{[]byte("a"), 0xc1d04330},
	{make([]byte, 32), 0x8a9136aa},
	{bytes.Repeat([]byte{255}, 32), 0x62a8ab43},
	{rising(32), 0x46dd794e},
}

// rising are bytes 0, 1, 2 and on.
func rising(n int) []byte {
	out := make([]byte, n)
	for i := range out {
		out[i] = byte(i)
	}
	return out
}

// mixed are n bytes of all kinds, the same ones for the same seed.
func mixed(n int, seed uint32) []byte {
	out := make([]byte, n)
	for i := range out {
		seed = seed*1664525 + 1013904223
		out[i] = byte(seed >> 24)
	}
	return out
}

// texts are of all lengths below 40, and some greater ones.
func texts() [][]byte {
	out := [][]byte{nil}
	for n := range 40 {
		out = append(out, make([]byte, n), bytes.Repeat([]byte{255}, n), rising(n), mixed(n, uint32(n)))
	}
	return append(out, mixed(255, 1), mixed(256, 2), mixed(257, 3), mixed(4096, 4), mixed(10007, 5))
}

// step is the document's word for it.
func step(n uint32) uint32 {
	half := n / 2
	if n%2 == 1 {
		half ^= 0x82f63b78
	}
	return half
}

// more is P2.1, word by word.
func more(sum uint32, b []byte) uint32 {
	sum ^= 0xffffffff
	for _, c := range b {
		sum ^= uint32(c)
		for range 8 {
			sum = step(sum)
		}
	}
	return sum ^ 0xffffffff
}

// behind is a number behind so many steps; what they make of each bit alone is changed by one another, so that twice as many steps are twice the same.
func behind(n uint32, steps uint64) uint32 {
	var made [32]uint32
	for bit := range made {
		made[bit] = step(1 << bit)
	}
	apply := func(n uint32) uint32 {
		out := uint32(0)
		for bit, x := range made {
			if n>>bit&1 == 1 {
				out ^= x
			}
		}
		return out
	}
	for ; steps > 0; steps /= 2 {
		if steps%2 == 1 {
			n = apply(n)
		}
		twice := made
		for bit, x := range made {
			twice[bit] = apply(x)
		}
		made = twice
	}
	return n
}

// turn turns the bits of b that pattern has, from the bit at on; a byte's lowest bit is its first.
func turn(b []byte, at int, pattern uint32) {
	for i := range 32 {
		if pattern>>i&1 == 1 {
			b[(at+i)/8] ^= 1 << ((at + i) % 8)
		}
	}
}

// withSpare is a list of these members, whose spare room is filled by 0xaa.
func withSpare(members []byte) []byte {
	all := append(slices.Clone(members), bytes.Repeat([]byte{0xaa}, 16)...)
	return all[:len(members)]
}

// fill writes over a list, its spare room too.
func fill(l []byte, x byte) {
	l = l[:cap(l)]
	for i := range l {
		l[i] = x
	}
}

// whole is a copy of a list and its spare room.
func whole(l []byte) []byte { return slices.Clone(l[:cap(l)]) }

// P2.1: the chapter's example, and others that are published.
func TestPublishedSums(t *testing.T) {
	for _, c := range published {
		if x := crc.Sum(c.text); x != c.sum {
			t.Errorf("Sum(%q): %08x, not %08x", c.text, x, c.sum)
		}
		if x := crc.More(0, c.text); x != c.sum {
			t.Errorf("More(0, %q): %08x, not %08x", c.text, x, c.sum)
		}
	}
}

// P2.1: each byte alone, and texts of many lengths, from all kinds of sums on.
func TestMoreDoesItsSteps(t *testing.T) {
	for c := range 256 {
		b := []byte{byte(c)}
		if x, want := crc.Sum(b), more(0, b); x != want {
			t.Errorf("Sum(%d): %08x, not %08x", c, x, want)
		}
	}
	for _, b := range texts() {
		if x, want := crc.Sum(b), more(0, b); x != want {
			t.Errorf("Sum of %d bytes: %08x, not %08x", len(b), x, want)
		}
		for _, sum := range sums {
			if x, want := crc.More(sum, b), more(sum, b); x != want {
				t.Errorf("More(%08x, %d bytes): %08x, not %08x", sum, len(b), x, want)
			}
		}
	}
}

// P2.1: no bytes leave a sum as it was.
func TestMoreOfNoBytes(t *testing.T) {
	for _, sum := range sums {
		if x := crc.More(sum, nil); x != sum {
			t.Errorf("More(%08x, nil): %08x", sum, x)
		}
		if x := crc.More(sum, []byte{}); x != sum {
			t.Errorf("More(%08x, none): %08x", sum, x)
		}
	}
}

// P2.2: steps of eight for each byte, without turning, changed by b.
func TestJoinDoesItsSteps(t *testing.T) {
	for _, a := range sums {
		stepped := a
		for n := range 300 {
			for _, b := range sums {
				if x := crc.Join(a, b, n); x != stepped^b {
					t.Fatalf("Join(%08x, %08x, %d): %08x, not %08x", a, b, n, x, stepped^b)
				}
			}
			for range 8 {
				stepped = step(stepped)
			}
		}
	}
}

// P2.2: as many bytes as are allowed, and all kinds of numbers below.
func TestJoinOfManyBytes(t *testing.T) {
	ns := []int{1<<30 - 1, 1 << 30, 123456789, 987654321, 715827882, 357913941}
	for k := range 30 {
		ns = append(ns, 1<<k-1, 1<<k, 1<<k+1)
	}
	for _, n := range ns {
		for _, a := range sums {
			want := behind(a, 8*uint64(n)) ^ 0x01234567
			if x := crc.Join(a, 0x01234567, n); x != want {
				t.Errorf("Join(%08x, 01234567, %d): %08x, not %08x", a, n, x, want)
			}
		}
	}
}

// P2.2: n below 0 is taken as 0, above 2^30 as that.
func TestJoinHoldsItsNumber(t *testing.T) {
	for _, a := range sums {
		for _, b := range sums {
			for _, n := range []int{0, -1, -2, -8, -1 << 30, -1<<30 - 1, -1 << 31, -1 << 32, math.MinInt + 1, math.MinInt} {
				if x := crc.Join(a, b, n); x != a^b {
					t.Errorf("Join(%08x, %08x, %d): %08x, not %08x", a, b, n, x, a^b)
				}
			}
			want := behind(a, 8<<30) ^ b
			for _, n := range []int{1 << 30, 1<<30 + 1, 1<<30 + 2, 1<<31 - 1, 1 << 31, 1<<31 + 1, 1 << 32, 1<<32 + 1, 1 << 62, math.MaxInt - 1, math.MaxInt} {
				if x := crc.Join(a, b, n); x != want {
					t.Errorf("Join(%08x, %08x, %d): %08x, not %08x", a, b, n, x, want)
				}
			}
		}
	}
}

// P2.3: a text, and its sum in four bytes, the lowest first.
func TestSealPutsTheSumBehind(t *testing.T) {
	if x, want := crc.Seal([]byte("123456789")), []byte("123456789\x83\x92\x06\xe3"); !bytes.Equal(x, want) {
		t.Errorf("%q, not %q", x, want)
	}
	for _, b := range texts() {
		sum := more(0, b)
		want := append(slices.Clone(b), byte(sum), byte(sum>>8), byte(sum>>16), byte(sum>>24))
		if x := crc.Seal(b); !bytes.Equal(x, want) {
			t.Errorf("Seal(%v): %v, not %v", b, x, want)
		}
	}
}

// P2.3, P2.4: what is sealed is opened.
func TestOpenOfWhatIsSealed(t *testing.T) {
	for _, b := range texts() {
		if x, e := crc.Open(crc.Seal(b)); e != api.OK || !bytes.Equal(x, b) {
			t.Errorf("Open of sealed %v: %v, %d", b, x, e)
		}
	}
	twice := crc.Seal(crc.Seal([]byte("ab")))
	if x, e := crc.Open(twice); e != api.OK || !bytes.Equal(x, crc.Seal([]byte("ab"))) {
		t.Errorf("Open of what is sealed twice: %v, %d", x, e)
	}
}

// P2.3, R2: fewer than four bytes are not sealed.
func TestOpenOfFewBytes(t *testing.T) {
	for _, b := range [][]byte{nil, {}, {0}, {255}, {0, 0}, {1, 2}, {0, 0, 0}, {255, 255, 255}, withSpare(nil), make([]byte, 4)[:3]} {
		if x, e := crc.Open(b); e != api.ErrCrc || len(x) != 0 {
			t.Errorf("Open(%v): %v, %d", b, x, e)
		}
	}
}

// P2.3: just four bytes are no bytes' sum, or none's.
func TestOpenOfFourBytes(t *testing.T) {
	if x, e := crc.Open([]byte{0, 0, 0, 0}); e != api.OK || len(x) != 0 {
		t.Errorf("%v, %d", x, e)
	}
	for bit := range 32 {
		b := make([]byte, 4)
		turn(b, bit, 1)
		if x, e := crc.Open(b); e != api.ErrCrc || len(x) != 0 {
			t.Errorf("Open(%v): %v, %d", b, x, e)
		}
	}
	if x, e := crc.Open([]byte{255, 255, 255, 255}); e != api.ErrCrc || len(x) != 0 {
		t.Errorf("%v, %d", x, e)
	}
}

// P2.3, R2: a sum that stands elsewhere, or the other way round, or of which, or of whose text, bytes are missing or too many.
func TestOpenOfOtherBytes(t *testing.T) {
	sealed := crc.Seal([]byte("123456789"))
	for _, b := range [][]byte{
		sealed[1:],
		sealed[:len(sealed)-1],
		sealed[:9],
		append(slices.Clone(sealed), 0),
		append([]byte{0}, sealed...),
		[]byte("123456789\xe3\x06\x92\x83"),
		[]byte("\x83\x92\x06\xe3123456789"),
		[]byte("123456789\x7c\x6d\xf9\x1c"),
		[]byte("123456789\x00\x00\x00\x00"),
		[]byte("213456789\x83\x92\x06\xe3"),
	} {
		if x, e := crc.Open(b); e != api.ErrCrc || len(x) != 0 {
			t.Errorf("Open(%q): %q, %d", b, x, e)
		}
	}
}

// P2.4: a sum goes on, wherever a text is cut, in two or in three.
func TestSumGoesOn(t *testing.T) {
	text := mixed(61, 7)
	want := crc.Sum(text)
	for i := range len(text) + 1 {
		ahead := crc.Sum(text[:i])
		if x := crc.More(ahead, text[i:]); x != want {
			t.Errorf("cut at %d: %08x, not %08x", i, x, want)
		}
		for j := i; j <= len(text); j++ {
			if x := crc.More(crc.More(ahead, text[i:j]), text[j:]); x != want {
				t.Errorf("cut at %d and %d: %08x, not %08x", i, j, x, want)
			}
		}
	}
}

// P2.4: two texts' sums are joined to that of both.
func TestJoinIsTheSumOfBoth(t *testing.T) {
	for _, a := range texts() {
		for _, b := range texts() {
			want := crc.Sum(append(slices.Clone(a), b...))
			if x := crc.Join(crc.Sum(a), crc.Sum(b), len(b)); x != want {
				t.Errorf("Join of %d and %d bytes: %08x, not %08x", len(a), len(b), x, want)
			}
		}
	}
}

// P2.4, R2: with one bit turned, wherever, a sealed text is not opened.
func TestOpenWithOneBitTurned(t *testing.T) {
	for _, text := range [][]byte{nil, {0}, []byte("123456789"), mixed(300, 11)} {
		sealed := crc.Seal(text)
		for at := range 8 * len(sealed) {
			b := slices.Clone(sealed)
			turn(b, at, 1)
			if x, e := crc.Open(b); e != api.ErrCrc || len(x) != 0 {
				t.Errorf("%d bytes, bit %d: %v, %d", len(text), at, x, e)
			}
		}
	}
}

// P2.4, R2: with some of up to thirty-two bits that follow one another turned, a sealed text is not opened.
func TestOpenWithBitsTurned(t *testing.T) {
	for _, text := range [][]byte{nil, {0}, []byte("123456789"), mixed(40, 13)} {
		sealed := crc.Seal(text)
		bits := 8 * len(sealed)
		for long := 2; long <= 32; long++ {
			edges := uint32(1) | 1<<(long-1)
			all := uint32(1<<long - 1)
			for at := 0; at+long <= bits; at++ {
				for _, pattern := range []uint32{edges, all, (0x82f63b78 | edges) & all, (0x05ec76f1 | edges) & all, (0x55555555 | edges) & all, (uint32(at)*2654435761 | edges) & all} {
					b := slices.Clone(sealed)
					turn(b, at, pattern)
					if x, e := crc.Open(b); e != api.ErrCrc || len(x) != 0 {
						t.Errorf("%d bytes, %08x from bit %d on: %v, %d", len(text), pattern, at, x, e)
					}
				}
			}
		}
	}
}

// R4: no call changes what it is given, nor its spare room.
func TestArgumentsStay(t *testing.T) {
	sealed := crc.Seal([]byte("123456789"))
	for _, members := range [][]byte{nil, {0, 0}, []byte("123456789"), sealed, mixed(100, 17), make([]byte, 4)} {
		b := withSpare(members)
		before := whole(b)
		crc.Sum(b)
		crc.More(5, b)
		crc.Seal(b)
		crc.Open(b)
		if !bytes.Equal(whole(b), before) {
			t.Errorf("%v became %v", before, whole(b))
		}
	}
}

// R4: what is answered is memory of its own, its spare room too.
func TestAnswersAreNew(t *testing.T) {
	for _, text := range [][]byte{nil, {7}, []byte("123456789")} {
		given := withSpare(text)
		before := whole(given)
		first, second := crc.Seal(given), crc.Seal(given)
		want := slices.Clone(second)
		fill(first, 0x55)
		if !bytes.Equal(whole(given), before) || !bytes.Equal(second, want) {
			t.Errorf("Seal(%v) shares what it answers", text)
		}

		sealed := withSpare(want)
		before = whole(sealed)
		first, _ = crc.Open(sealed)
		second, _ = crc.Open(sealed)
		fill(first, 0x55)
		if !bytes.Equal(whole(sealed), before) || !bytes.Equal(second, text) {
			t.Errorf("Open of sealed %v shares what it answers", text)
		}
	}
}

// R5: spare room, and what is in it, tells nothing.
func TestSpareRoomTellsNothing(t *testing.T) {
	sealed := crc.Seal([]byte("123456789"))
	roomy := append(slices.Clone(sealed), 0, 0, 0, 0)
	for end := range len(sealed) + 1 {
		text, e := crc.Open(roomy[:end])
		again, f := crc.Open(slices.Clip(slices.Clone(sealed[:end])))
		if e != f || !bytes.Equal(text, again) || (e == api.OK) != (end == len(sealed)) {
			t.Errorf("%d bytes: %q, %d; %q, %d", end, text, e, again, f)
		}
	}
}
