package le_test

import (
	"bytes"
	"math"
	"slices"
	"strings"
	"testing"

	"waggoner/api"
	"waggoner/le"
)

// sizes are all that there are, with their letters, and the greatest number that fits in each.
var sizes = []struct {
	size     int
	letter   string
	greatest uint64
}{
	{1, "b", math.MaxUint8},
	{2, "h", math.MaxUint16},
	{4, "w", math.MaxUint32},
	{8, "q", math.MaxUint64},
}

var noSizes = []int{math.MinInt, -8, -4, -2, -1, 0, 3, 5, 6, 7, 9, 16, 32, 64, 256, 1 << 32, 1<<32 + 1, math.MaxInt}

// noForms have a letter that is none, ahead, between or behind, or are no letters at all; Ţ is a letter whose lowest byte is that of b.
var noForms = []string{"x", "B", "H", "W", "Q", " ", "b ", " b", "bxh", "bhx", "xbh", "1", "b\x00", "\x00", "\xff", "b\xff", "\xe2b", "é", "Ţ", "bŢ", "ｂ", "\ufffd", "b,h", "bh\n"}

// numbersOf are such as fit in size bytes, the edges of all sizes below it among them.
func numbersOf(size int) []uint64 {
	var out []uint64
	for _, n := range []uint64{0, 1, 2, 127, 128, 254, 255, 256, 257, 258, 32767, 32768, 65534, 65535, 65536, 0x010203, 0x01020304, 0x80000000, math.MaxUint32, 1 << 32, 0x0102030405060708, 0xf1f2f3f4f5f6f7f8, 1 << 63, math.MaxUint64 - 1, math.MaxUint64} {
		if size == 8 || n < 1<<(8*size) {
			out = append(out, n)
		}
	}
	return out
}

// lowFirst writes n as the document says it, by division.
func lowFirst(n uint64, size int) []byte {
	out := []byte{}
	for len(out) < size {
		out = append(out, byte(n%256))
		n /= 256
	}
	return out
}

// withSpare is a list of these members, whose spare room is filled by 0xaa.
func withSpare(members []byte) []byte {
	all := append(slices.Clone(members), bytes.Repeat([]byte{0xaa}, 16)...)
	return all[:len(members)]
}

// fill writes over a list, its spare room too.
func fill[T byte | uint64](l []T, x T) {
	l = l[:cap(l)]
	for i := range l {
		l[i] = x
	}
}

// whole is a copy of a list and its spare room.
func whole[T any](l []T) []T { return slices.Clone(l[:cap(l)]) }

// P1.1: Put writes size bytes behind b, the lowest first.
func TestPutWritesLowestFirst(t *testing.T) {
	for _, ahead := range [][]byte{nil, {}, {9}, {1, 2, 3, 4, 5, 6, 7, 8, 9}} {
		for _, s := range sizes {
			for _, n := range numbersOf(s.size) {
				b, e := le.Put(ahead, n, s.size)
				want := append(slices.Clone(ahead), lowFirst(n, s.size)...)
				if e != api.OK || !bytes.Equal(b, want) {
					t.Errorf("Put(%v, %d, %d): %v, %d; not %v", ahead, n, s.size, b, e, want)
				}
			}
		}
	}
	b, e := le.Put([]byte{9}, 0x0807060504030201, 8)
	if want := []byte{9, 1, 2, 3, 4, 5, 6, 7, 8}; e != api.OK || !bytes.Equal(b, want) {
		t.Errorf("%v, %d; not %v", b, e, want)
	}
}

// P1.1: the greatest number of a size is put, the first that does not fit, and others, are not.
func TestPutAsksWhetherItFits(t *testing.T) {
	for _, s := range sizes {
		b, e := le.Put(nil, s.greatest, s.size)
		if want := bytes.Repeat([]byte{255}, s.size); e != api.OK || !bytes.Equal(b, want) {
			t.Errorf("Put(%d, %d): %v, %d", s.greatest, s.size, b, e)
		}
		if s.size == 8 {
			continue
		}
		for _, n := range []uint64{s.greatest + 1, s.greatest + 2, 2 * (s.greatest + 1), 1 << 63, math.MaxUint64} {
			if b, e := le.Put([]byte{1, 2}, n, s.size); e != api.ErrLe || len(b) != 0 {
				t.Errorf("Put(%d, %d): %v, %d", n, s.size, b, e)
			}
		}
	}
}

// P1.1, R2: a size that is none is ErrLe, with nothing beside it.
func TestNoSize(t *testing.T) {
	for _, size := range noSizes {
		for _, given := range [][]byte{nil, {}, {1}, make([]byte, 300)} {
			for _, n := range []uint64{0, 1, math.MaxUint64} {
				if b, e := le.Put(given, n, size); e != api.ErrLe || len(b) != 0 {
					t.Errorf("Put(%d bytes, %d, %d): %v, %d", len(given), n, size, b, e)
				}
			}
			if n, rest, e := le.Take(given, size); e != api.ErrLe || n != 0 || len(rest) != 0 {
				t.Errorf("Take(%d bytes, %d): %d, %v, %d", len(given), size, n, rest, e)
			}
		}
	}
}

// P1.1: Take is the number ahead, and all that is behind it.
func TestTakeReadsLowestFirst(t *testing.T) {
	all := []byte{0xf1, 0xf2, 0xf3, 0xf4, 0xf5, 0xf6, 0xf7, 0xf8, 0xf9, 0xfa}
	want := map[int]uint64{1: 0xf1, 2: 0xf2f1, 4: 0xf4f3f2f1, 8: 0xf8f7f6f5f4f3f2f1}
	for _, s := range sizes {
		for n := s.size; n <= len(all); n++ {
			got, rest, e := le.Take(all[:n], s.size)
			if e != api.OK || got != want[s.size] || !bytes.Equal(rest, all[s.size:n]) {
				t.Errorf("Take(%d bytes, %d): %x, %v, %d", n, s.size, got, rest, e)
			}
		}
	}
}

// P1.1, R2: too few bytes are ErrLe, whatever the spare room behind them.
func TestTakeOfTooFew(t *testing.T) {
	for _, s := range sizes {
		for n := range s.size {
			for _, b := range [][]byte{withSpare(make([]byte, n)), bytes.Repeat([]byte{7}, n)} {
				if got, rest, e := le.Take(b, s.size); e != api.ErrLe || got != 0 || len(rest) != 0 {
					t.Errorf("Take(%d bytes, %d): %d, %v, %d", n, s.size, got, rest, e)
				}
			}
		}
		if got, rest, e := le.Take(nil, s.size); e != api.ErrLe || got != 0 || len(rest) != 0 {
			t.Errorf("Take(nil, %d): %d, %v, %d", s.size, got, rest, e)
		}
	}
}

// P1.2: the chapter's example, both ways, and a form of all letters.
func TestPackExamples(t *testing.T) {
	for _, c := range []struct {
		form    string
		numbers []uint64
		b       []byte
	}{
		{"bh", []uint64{7, 258}, []byte{7, 2, 1}},
		{"hb", []uint64{258, 7}, []byte{2, 1, 7}},
		{"bhwq", []uint64{1, 0x0302, 0x07060504, 0x0f0e0d0c0b0a0908}, []byte{1, 2, 3, 4, 5, 6, 7, 8, 9, 10, 11, 12, 13, 14, 15}},
		{"qwhb", []uint64{0x0807060504030201, 0x0c0b0a09, 0x0e0d, 15}, []byte{1, 2, 3, 4, 5, 6, 7, 8, 9, 10, 11, 12, 13, 14, 15}},
		{"bbb", []uint64{0, 255, 0}, []byte{0, 255, 0}},
		{"q", []uint64{math.MaxUint64}, []byte{255, 255, 255, 255, 255, 255, 255, 255}},
	} {
		if b, e := le.Pack(c.form, c.numbers...); e != api.OK || !bytes.Equal(b, c.b) {
			t.Errorf("Pack(%q, %v): %v, %d; not %v", c.form, c.numbers, b, e, c.b)
		}
		if numbers, e := le.Unpack(c.form, c.b); e != api.OK || !slices.Equal(numbers, c.numbers) {
			t.Errorf("Unpack(%q, %v): %v, %d; not %v", c.form, c.b, numbers, e, c.numbers)
		}
	}
}

// P1.2: a form of no letters has no numbers, and no bytes.
func TestFormOfNoLetters(t *testing.T) {
	if b, e := le.Pack(""); e != api.OK || len(b) != 0 {
		t.Errorf("Pack: %v, %d", b, e)
	}
	if b, e := le.Pack("", 0); e != api.ErrLe || len(b) != 0 {
		t.Errorf("Pack of a number: %v, %d", b, e)
	}
	for _, none := range [][]byte{nil, {}} {
		if numbers, e := le.Unpack("", none); e != api.OK || len(numbers) != 0 {
			t.Errorf("Unpack: %v, %d", numbers, e)
		}
	}
	if numbers, e := le.Unpack("", []byte{0}); e != api.ErrLe || len(numbers) != 0 {
		t.Errorf("Unpack of a byte: %v, %d", numbers, e)
	}
}

// P1.2, R2: a number, wherever it stands, must fit in its own letter's size.
func TestPackAsksWhetherEachFits(t *testing.T) {
	for _, s := range sizes {
		if b, e := le.Pack(s.letter, s.greatest); e != api.OK || !bytes.Equal(b, bytes.Repeat([]byte{255}, s.size)) {
			t.Errorf("Pack(%s, %d): %v, %d", s.letter, s.greatest, b, e)
		}
		if s.size == 8 {
			continue
		}
		for _, n := range []uint64{s.greatest + 1, math.MaxUint64} {
			for at := range 3 {
				form := strings.Repeat("q", at) + s.letter + strings.Repeat("q", 2-at)
				numbers := []uint64{1, 1, 1}
				numbers[at] = n
				if b, e := le.Pack(form, numbers...); e != api.ErrLe || len(b) != 0 {
					t.Errorf("Pack(%q, %v): %v, %d", form, numbers, b, e)
				}
			}
		}
	}
}

// P1.2, R2: as many letters as numbers.
func TestPackOfTooFewAndTooMany(t *testing.T) {
	for _, form := range []string{"b", "q", "bh", "hhh", "bhwq"} {
		for n := range len(form) + 9 {
			b, e := le.Pack(form, make([]uint64, n)...)
			if right := n == len(form); right != (e == api.OK) || !right && (e != api.ErrLe || len(b) != 0) {
				t.Errorf("Pack(%q, %d numbers): %v, %d", form, n, b, e)
			}
		}
	}
}

// P1.2, R2: just as many bytes as the form's numbers have, whatever the spare room behind them.
func TestUnpackOfTooFewAndTooMany(t *testing.T) {
	for form, total := range map[string]int{"b": 1, "h": 2, "w": 4, "q": 8, "bh": 3, "hhh": 6, "bhwq": 15} {
		for n := range total + 9 {
			numbers, e := le.Unpack(form, withSpare(make([]byte, n)))
			if right := n == total; right != (e == api.OK) || !right && (e != api.ErrLe || len(numbers) != 0) {
				t.Errorf("Unpack(%q, %d bytes): %v, %d", form, n, numbers, e)
			}
		}
	}
}

// P1.2, R2: a letter that is none is ErrLe, however many numbers or bytes there are.
func TestNoForm(t *testing.T) {
	for _, form := range noForms {
		for n := range 20 {
			if b, e := le.Pack(form, make([]uint64, n)...); e != api.ErrLe || len(b) != 0 {
				t.Errorf("Pack(%q, %d numbers): %v, %d", form, n, b, e)
			}
			if numbers, e := le.Unpack(form, make([]byte, n)); e != api.ErrLe || len(numbers) != 0 {
				t.Errorf("Unpack(%q, %d bytes): %v, %d", form, n, numbers, e)
			}
		}
	}
}

// P1.3: what Put wrote is what Take reads, whatever is ahead and behind.
func TestTakeReadsWhatPutWrote(t *testing.T) {
	others := [][]byte{nil, {0}, {255}, {1, 2, 3}, bytes.Repeat([]byte{0xee}, 40)}
	for _, s := range sizes {
		for _, n := range numbersOf(s.size) {
			for _, ahead := range others {
				for _, behind := range others {
					b, e := le.Put(ahead, n, s.size)
					if e != api.OK || len(b) != len(ahead)+s.size || !bytes.HasPrefix(b, ahead) {
						t.Fatalf("Put(%v, %d, %d): %v, %d", ahead, n, s.size, b, e)
					}
					b = append(b, behind...)
					got, rest, e := le.Take(b[len(ahead):], s.size)
					if e != api.OK || got != n || !bytes.Equal(rest, behind) {
						t.Fatalf("Take of %d in %d: %d, %v, %d", n, s.size, got, rest, e)
					}
				}
			}
		}
	}
}

// P1.3: numbers that are put one behind the other are the ones that are packed, and are taken, and unpacked, as they were.
func TestUnpackReadsWhatPackWrote(t *testing.T) {
	form := ""
	var numbers []uint64
	var put []byte
	for round := range 25 {
		for _, s := range sizes {
			l := numbersOf(s.size)
			n := l[round%len(l)]
			form, numbers = form+s.letter, append(numbers, n)
			put, _ = le.Put(put, n, s.size)
			b, e := le.Pack(form, numbers...)
			if e != api.OK || !bytes.Equal(b, put) {
				t.Fatalf("Pack(%q, %v): %v, %d; not %v", form, numbers, b, e, put)
			}
			if got, e := le.Unpack(form, b); e != api.OK || !slices.Equal(got, numbers) {
				t.Fatalf("Unpack(%q): %v, %d; not %v", form, got, e, numbers)
			}
		}
	}
	for i := range form {
		n, rest, e := le.Take(put, sizes[i%len(sizes)].size)
		if e != api.OK || n != numbers[i] {
			t.Fatalf("Take of %d: %d, %d", numbers[i], n, e)
		}
		put = rest
	}
	if len(put) != 0 {
		t.Errorf("left: %v", put)
	}
}

// P1.3: bytes that Unpack reads are those that Pack writes of what it read.
func TestPackWritesWhatUnpackRead(t *testing.T) {
	for _, form := range []string{"b", "h", "w", "q", "bhwq", "qwhb", "bqbq"} {
		for first := range 256 {
			b := []byte{}
			for _, letter := range form {
				for _, s := range sizes {
					if s.letter == string(letter) {
						for range s.size {
							b = append(b, byte(first+37*len(b)))
						}
					}
				}
			}
			numbers, e := le.Unpack(form, b)
			if e != api.OK {
				t.Fatalf("Unpack(%q, %v): %d", form, b, e)
			}
			if got, e := le.Pack(form, numbers...); e != api.OK || !bytes.Equal(got, b) {
				t.Fatalf("Pack(%q, %v): %v, %d; not %v", form, numbers, got, e, b)
			}
		}
	}
}

// R4: bytes that are handed in stay as they were, spare room too, and share nothing with what is answered.
func TestBytesAreNeitherChangedNorKept(t *testing.T) {
	for n := range 12 {
		for _, size := range []int{0, 1, 2, 3, 4, 8} {
			given := withSpare(bytes.Repeat([]byte{5}, n))
			before := whole(given)
			put, _ := le.Put(given, 7, size)
			_, rest, _ := le.Take(given, size)
			numbers, _ := le.Unpack(strings.Repeat("b", n), given)
			fill(put, 0xbb)
			if len(rest) > 0 && rest[0] != 5 {
				t.Errorf("%d bytes, size %d: answers share memory", n, size)
			}
			fill(rest, 0xcc)
			fill(numbers, 0xdd)
			if !bytes.Equal(whole(given), before) {
				t.Errorf("%d bytes, size %d: changed to %v", n, size, whole(given))
			}
		}
	}
}

// R4: what is answered stays, whatever becomes of what was handed in.
func TestAnswersAreKeptApart(t *testing.T) {
	given := withSpare([]byte{1, 2, 3})
	put, _ := le.Put(given, 4, 1)
	again, _ := le.Put(given, 5, 1)
	_, rest, _ := le.Take(given, 1)
	fill(given, 0xee)
	if !bytes.Equal(put, []byte{1, 2, 3, 4}) || !bytes.Equal(again, []byte{1, 2, 3, 5}) || !bytes.Equal(rest, []byte{2, 3}) {
		t.Errorf("%v, %v, %v", put, again, rest)
	}
}

// R4: numbers that are handed in stay as they were, spare room too, whether they are packed or not.
func TestNumbersAreNeitherChangedNorKept(t *testing.T) {
	for _, form := range []string{"bhw", "bbb", "bx", "bh", "bhwq"} {
		all := []uint64{1, 2, 1 << 31, 99, 98, 97}
		given := all[:3]
		before := whole(given)
		b, _ := le.Pack(form, given...)
		fill(b, 0xbb)
		if !slices.Equal(whole(given), before) {
			t.Errorf("%q: changed to %v", form, whole(given))
		}
	}
}
