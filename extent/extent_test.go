package extent_test

import (
	"bytes"
	"math"
	"slices"
	"testing"

	"waggoner/api"
	"waggoner/extent"
)

// The numbers of the chapter, not api's, so that both are held against each other.
const (
	block  = 32
	blocks = 64
	maxGen = 1<<31 - 1
)

// kinds are all that an extent may be.
var kinds = []int{0, 1, 2}

// noKinds are none; some have the lowest byte of one.
var noKinds = []int{-1, 3, 4, -2, 255, 256, 257, 258, 1<<32 + 1, math.MinInt, math.MinInt + 2, math.MaxInt}

// gens are edges of what a generation may be.
var gens = []int{0, 1, 2, 255, 256, 65535, 65536, 1<<24 + 5, 0x01020304, 1 << 30, maxGen - 1, maxGen}

// noGens are below 0, or beyond the greatest one; some have the lowest four bytes of one.
var noGens = []int{-1, -2, maxGen + 1, maxGen + 2, 1<<32 - 1, 1 << 32, 1<<32 + 1, -1 << 31, -1 << 32, math.MinInt, math.MinInt + 1, math.MaxInt - 1, math.MaxInt}

// far are numbers that are no numbers of blocks; some have the lowest byte of one, and some go round when they are added.
var far = []int{-1, -2, -32, -63, -64, -65, 65, 66, 127, 128, 255, 256, 257, 320, 1 << 31, 1<<32 + 1, -1 << 32, math.MinInt, math.MinInt + 1, math.MinInt + 64, math.MaxInt - 64, math.MaxInt - 63, math.MaxInt - 1, math.MaxInt}

// mixed are n bytes of all kinds, the same ones for the same seed.
func mixed(n int, seed uint32) []byte {
	out := make([]byte, n)
	for i := range out {
		seed = seed*1664525 + 1013904223
		out[i] = byte(seed >> 24)
	}
	return out
}

// of is an extent that has as many bytes as it is to have.
func of(lba, n, kind, gen int) api.Extent {
	x := api.Extent{Lba: lba, Len: n, Kind: kind, Gen: gen}
	if kind == 2 {
		x.Data = mixed(n*block, uint32(lba+n*100+1))
	}
	return x
}

// rightExtents are some that may be: of each Kind, of all blocks, of one, at both ends, between.
func rightExtents() []api.Extent {
	var out []api.Extent
	for _, kind := range kinds {
		for i, c := range [][2]int{{0, 64}, {0, 1}, {0, 2}, {1, 1}, {1, 63}, {0, 63}, {3, 5}, {62, 2}, {63, 1}, {31, 33}, {32, 32}, {20, 7}} {
			out = append(out, of(c[0], c[1], kind, gens[i]))
		}
	}
	return out
}

// wrongExtents are some that may not be, for one thing or for several.
func wrongExtents() []api.Extent {
	out := []api.Extent{{}, {Lba: -1}, {Lba: 64, Len: 1}, {Lba: -1, Len: 65, Kind: 3, Gen: -1, Data: []byte{1}}}
	for _, kind := range kinds {
		for _, n := range append(far, 64) {
			x := of(0, 1, kind, 1)
			x.Lba = n
			out = append(out, x)
		}
		for _, n := range append(far, 0, 62) {
			x := of(3, 1, kind, 1)
			x.Len = n
			out = append(out, x)
		}
		out = append(out, of(60, 5, kind, 1), of(1, 64, kind, 1), of(0, 65, kind, 1), of(63, 2, kind, 1))
		for _, gen := range noGens {
			out = append(out, of(3, 5, kind, gen), of(0, 64, kind, gen))
		}
	}
	for _, kind := range noKinds {
		x := of(3, 5, 2, 1)
		x.Kind = kind
		out = append(out, x, of(3, 5, kind, 1), of(0, 1, kind, 0))
	}
	for _, n := range []int{0, 1, 31, 32, 5*block - 32, 5*block - 1, 5*block + 1, 5*block + 32, 2048} {
		out = append(out, api.Extent{Lba: 3, Len: 5, Kind: 2, Gen: 1, Data: make([]byte, n)})
	}
	for _, n := range []int{1, 31, 32, 5 * block, 2048} {
		out = append(out, api.Extent{Lba: 3, Len: 5, Gen: 1, Data: make([]byte, n)}, api.Extent{Lba: 3, Len: 5, Kind: 1, Data: make([]byte, n)})
	}
	return out
}

// same tells whether two extents are alike.
func same(a, b api.Extent) bool {
	return a.Lba == b.Lba && a.Len == b.Len && a.Kind == b.Kind && a.Gen == b.Gen && bytes.Equal(a.Data, b.Data)
}

// mayBe is P7.1's Check, word by word.
func mayBe(x api.Extent) bool {
	if x.Lba < 0 || x.Len < 1 || x.Lba > blocks || x.Len > blocks || x.Lba+x.Len > blocks {
		return false
	}
	if x.Gen < 0 || x.Gen > maxGen {
		return false
	}
	switch x.Kind {
	case 0, 1:
		return len(x.Data) == 0
	case 2:
		return len(x.Data) == x.Len*block
	}
	return false
}

// has tells whether a block is one of an extent's.
func has(x api.Extent, lba int) bool { return lba >= x.Lba && lba < x.Lba+x.Len }

// cut is P7.2's Cut, block by block.
func cut(x api.Extent, lba, n int) (api.Extent, bool) {
	if !mayBe(x) || lba < 0 || lba > blocks || n < 0 || n > blocks {
		return api.Extent{}, false
	}
	part := api.Extent{Kind: x.Kind, Gen: x.Gen}
	for i := lba; i < lba+n; i++ {
		if !has(x, i) {
			continue
		}
		if part.Len == 0 {
			part.Lba = i
		}
		part.Len++
		if x.Kind == 2 {
			part.Data = append(part.Data, x.Data[(i-x.Lba)*block:][:block]...)
		}
	}
	if part.Len == 0 {
		return api.Extent{}, false
	}
	return part, true
}

// joined is P7.2's Join, word by word, and whether there is one.
func joined(a, b api.Extent) (api.Extent, bool) {
	if !mayBe(a) || !mayBe(b) || a.Lba+a.Len != b.Lba || a.Kind != b.Kind || a.Gen != b.Gen {
		return api.Extent{}, false
	}
	data := append(append([]byte{}, a.Data...), b.Data...)
	return api.Extent{Lba: a.Lba, Len: a.Len + b.Len, Kind: a.Kind, Gen: a.Gen, Data: data}, true
}

// written is P7.3's Write of a list that may be.
func written(l ...api.Extent) []byte {
	out := []byte{byte(len(l))}
	for _, x := range l {
		out = append(out, byte(x.Lba), byte(x.Len), byte(x.Kind), byte(x.Gen), byte(x.Gen>>8), byte(x.Gen>>16), byte(x.Gen>>24))
		out = append(out, x.Data...)
	}
	return out
}

// readBy is P7.3's Read: the list that bytes seem to be is theirs, if it may be, and they are its Write.
func readBy(b []byte) ([]api.Extent, bool) {
	if len(b) == 0 {
		return nil, false
	}
	var l []api.Extent
	at := 1
	for range int(b[0]) {
		if at+7 > len(b) {
			return nil, false
		}
		h := b[at:]
		x := api.Extent{Lba: int(h[0]), Len: int(h[1]), Kind: int(h[2]), Gen: int(h[3]) + int(h[4])<<8 + int(h[5])<<16 + int(h[6])<<24}
		at += 7
		if x.Kind == 2 {
			end := min(at+x.Len*block, len(b))
			x.Data = b[at:end]
			at = end
		}
		if !mayBe(x) {
			return nil, false
		}
		l = append(l, x)
	}
	return l, len(l) <= blocks && bytes.Equal(written(l...), b)
}

// isRead says if something else than this list is read.
func isRead(t *testing.T, b []byte, want []api.Extent, what string, numbers ...any) {
	t.Helper()
	if l, e := extent.Read(b); e != api.OK || !slices.EqualFunc(l, want, same) {
		t.Errorf(what+": %d extents, not %d; %d", append(numbers, len(l), len(want), e)...)
	}
}

// isNone says if something else than ErrExtent, and none, is read.
func isNone(t *testing.T, b []byte, what string, numbers ...any) {
	t.Helper()
	if l, e := extent.Read(b); e != api.ErrExtent || len(l) != 0 {
		t.Errorf(what+": %d extents, %d", append(numbers, len(l), e)...)
	}
}

// isReadBy says if something else is read than the promise's words tell.
func isReadBy(t *testing.T, b []byte, what string, numbers ...any) {
	t.Helper()
	if want, ok := readBy(b); ok {
		isRead(t, b, want, what, numbers...)
		return
	}
	isNone(t, b, what, numbers...)
}

// lists are some that may be: none, one of each that may be, many, as many as are allowed, in no order, alike ones too.
func lists() [][]api.Extent {
	out := [][]api.Extent{nil, {}, rightExtents(), slices.Repeat([]api.Extent{of(63, 1, 1, maxGen)}, 64), slices.Repeat([]api.Extent{of(0, 64, 2, 0x01020304)}, 64)}
	for _, x := range rightExtents() {
		out = append(out, []api.Extent{x}, []api.Extent{x, x}, []api.Extent{of(5, 3, 2, 9), x, of(0, 5, 0, 7)})
	}
	var ones []api.Extent
	for i := range 64 {
		ones = append(ones, of(63-i, 1, i%3, i*i))
	}
	return append(out, ones, ones[:63])
}

// withSpare are these bytes, whose spare room is filled by 0xaa.
func withSpare(b []byte) []byte {
	all := append(slices.Clone(b), bytes.Repeat([]byte{0xaa}, 64)...)
	return all[:len(b)]
}

// spared is an extent whose Data has spare room.
func spared(x api.Extent) api.Extent {
	x.Data = withSpare(x.Data)
	return x
}

// fill writes over bytes, their spare room too.
func fill(b []byte, c byte) {
	b = b[:cap(b)]
	for i := range b {
		b[i] = c
	}
}

// whole is a copy of bytes and their spare room.
func whole(b []byte) []byte { return slices.Clone(b[:cap(b)]) }

// deep is a copy of an extent.
func deep(x api.Extent) api.Extent {
	x.Data = slices.Clone(x.Data)
	return x
}

// P7.1 to P7.3: the numbers of the chapter are api's.
func TestLimits(t *testing.T) {
	if api.Block != block || api.Blocks != blocks || api.MaxGen != maxGen || api.ErrExtent != 70 {
		t.Errorf("%d, %d, %d, %d", api.Block, api.Blocks, api.MaxGen, api.ErrExtent)
	}
	if l := []int{api.EHole, api.EZero, api.EData}; !slices.Equal(l, kinds) {
		t.Errorf("%v", l)
	}
}

// P7.1: each limit, and one beyond it, all else as it may be.
func TestCheckAtEachLimit(t *testing.T) {
	data := func(n int) []byte { return make([]byte, n) }
	for i, c := range []struct {
		x    api.Extent
		want bool
	}{
		{api.Extent{Lba: 0, Len: 1}, true},
		{api.Extent{Lba: -1, Len: 1}, false},
		{api.Extent{Lba: -1, Len: 2}, false},
		{api.Extent{Lba: 63, Len: 1}, true},
		{api.Extent{Lba: 64, Len: 1}, false},
		{api.Extent{Lba: 5, Len: 0}, false},
		{api.Extent{Lba: 5, Len: -1}, false},
		{api.Extent{Lba: 64, Len: 0}, false},
		{api.Extent{Lba: 65, Len: -1}, false},
		{api.Extent{Lba: 0, Len: 64}, true},
		{api.Extent{Lba: 0, Len: 65}, false},
		{api.Extent{Lba: 1, Len: 63}, true},
		{api.Extent{Lba: 1, Len: 64}, false},
		{api.Extent{Lba: 32, Len: 32}, true},
		{api.Extent{Lba: 32, Len: 33}, false},
		{api.Extent{Lba: 33, Len: 32}, false},
		{api.Extent{Lba: math.MaxInt, Len: 1}, false},
		{api.Extent{Lba: 1, Len: math.MaxInt}, false},
		{api.Extent{Lba: math.MaxInt, Len: math.MaxInt}, false},
		{api.Extent{Lba: math.MinInt, Len: math.MaxInt}, false},
		{api.Extent{Lba: math.MinInt, Len: math.MinInt}, false},
		{api.Extent{Len: 1, Kind: 0}, true},
		{api.Extent{Len: 1, Kind: 1}, true},
		{api.Extent{Len: 1, Kind: -1}, false},
		{api.Extent{Len: 1, Kind: 3}, false},
		{api.Extent{Len: 1, Kind: 3, Data: data(32)}, false},
		{api.Extent{Len: 1, Gen: -1}, false},
		{api.Extent{Len: 1, Gen: maxGen}, true},
		{api.Extent{Len: 1, Gen: maxGen + 1}, false},
		{api.Extent{Len: 1, Data: data(1)}, false},
		{api.Extent{Len: 1, Data: data(32)}, false},
		{api.Extent{Len: 1, Data: data(0)}, true},
		{api.Extent{Len: 1, Kind: 1, Data: data(1)}, false},
		{api.Extent{Len: 1, Kind: 1, Data: data(32)}, false},
		{api.Extent{Len: 1, Kind: 1, Data: data(0)}, true},
		{api.Extent{Len: 1, Kind: 2}, false},
		{api.Extent{Len: 1, Kind: 2, Data: data(31)}, false},
		{api.Extent{Len: 1, Kind: 2, Data: data(32)}, true},
		{api.Extent{Len: 1, Kind: 2, Data: data(33)}, false},
		{api.Extent{Len: 2, Kind: 2, Data: data(32)}, false},
		{api.Extent{Len: 2, Kind: 2, Data: data(64)}, true},
		{api.Extent{Len: 64, Kind: 2, Gen: maxGen, Data: data(2048)}, true},
		{api.Extent{Len: 64, Kind: 2, Data: data(2047)}, false},
		{api.Extent{Len: 64, Kind: 2, Data: data(2049)}, false},
		{api.Extent{Len: 65, Kind: 2, Data: data(2080)}, false},
		{api.Extent{Kind: 2}, false},
		{api.Extent{Len: -1, Kind: 2}, false},
		{api.Extent{Len: 1 << 59, Kind: 2}, false},
		{api.Extent{}, false},
	} {
		if got := extent.Check(c.x); got != c.want {
			t.Errorf("%d: Check of Lba %d, Len %d, Kind %d, Gen %d, %d bytes: %v", i, c.x.Lba, c.x.Len, c.x.Kind, c.x.Gen, len(c.x.Data), got)
		}
	}
}

// P7.1: all numbers with each other, right ones and wrong ones.
func TestCheckOfAllTogether(t *testing.T) {
	near := []int{0, 1, 2, 3, 31, 32, 33, 61, 62, 63, 64}
	for _, lba := range slices.Concat(near, far) {
		for _, n := range slices.Concat(near, far) {
			for _, kind := range []int{0, 1, 2, -1, 3, 258, math.MinInt, math.MaxInt} {
				for _, gen := range []int{0, 7, maxGen, -1, maxGen + 1, 1 << 32, math.MinInt, math.MaxInt} {
					for _, size := range []int{0, 1, 31, 32, 33, 64, 2048} {
						x := api.Extent{Lba: lba, Len: n, Kind: kind, Gen: gen, Data: make([]byte, size)}
						if got := extent.Check(x); got != mayBe(x) {
							t.Errorf("Check of Lba %d, Len %d, Kind %d, Gen %d, %d bytes: %v", lba, n, kind, gen, size, got)
						}
					}
				}
			}
		}
	}
}

// P7.1: how many bytes Data has, of each Kind and each Len.
func TestCheckOfData(t *testing.T) {
	for n := 1; n <= blocks; n++ {
		for _, kind := range kinds {
			for _, size := range []int{0, 1, n, n*block - block, n*block - 1, n * block, n*block + 1, n*block + block, blocks * block} {
				want := kind == 2 && size == n*block || kind != 2 && size == 0
				if got := extent.Check(api.Extent{Lba: blocks - n, Len: n, Kind: kind, Data: make([]byte, size)}); got != want {
					t.Errorf("Check of Len %d, Kind %d, %d bytes: %v", n, kind, size, got)
				}
			}
		}
	}
}

// P7.1: extents that may be, and that may not.
func TestCheckOfRightAndWrong(t *testing.T) {
	for i, x := range rightExtents() {
		if !extent.Check(x) {
			t.Errorf("%d: Lba %d, Len %d, Kind %d may not be", i, x.Lba, x.Len, x.Kind)
		}
	}
	for i, x := range wrongExtents() {
		if extent.Check(x) {
			t.Errorf("%d: Lba %d, Len %d, Kind %d, Gen %d may be", i, x.Lba, x.Len, x.Kind, x.Gen)
		}
	}
}

// P7.1: Data, or as many bytes 0.
func TestBytes(t *testing.T) {
	for i, x := range rightExtents() {
		want := make([]byte, x.Len*block)
		if x.Kind == 2 {
			want = x.Data
		}
		if b := extent.Bytes(x); !bytes.Equal(b, want) {
			t.Errorf("%d: Bytes of Len %d, Kind %d: %d bytes", i, x.Len, x.Kind, len(b))
		}
	}
	// Bytes that stand in the spare room of a hole's Data are none of it.
	for _, kind := range []int{0, 1} {
		if b := extent.Bytes(spared(of(3, 2, kind, 1))); !bytes.Equal(b, make([]byte, 64)) {
			t.Errorf("Bytes of Kind %d with spare room: %v", kind, b)
		}
	}
}

// P7.1: no bytes of one that may not be.
func TestBytesOfWrongExtents(t *testing.T) {
	for i, x := range wrongExtents() {
		if b := extent.Bytes(x); len(b) != 0 {
			t.Errorf("%d: Bytes of Lba %d, Len %d, Kind %d: %d bytes", i, x.Lba, x.Len, x.Kind, len(b))
		}
	}
}

// P7.2: the chapter's example, and the edges, each told in full.
func TestCutAtEdges(t *testing.T) {
	zeros := of(3, 5, 1, 2)
	text := slices.Concat(bytes.Repeat([]byte{1}, block), bytes.Repeat([]byte{2}, block), bytes.Repeat([]byte{3}, block))
	data := api.Extent{Lba: 61, Len: 3, Kind: 2, Gen: 7, Data: text}
	hole := of(0, 64, 0, maxGen)
	none := api.Extent{}
	for i, c := range []struct {
		x      api.Extent
		lba, n int
		want   api.Extent
		is     bool
	}{
		{zeros, 5, 9, of(5, 3, 1, 2), true}, // the example
		{zeros, 0, 3, none, false},          // it ends ahead of the first block
		{zeros, 0, 4, of(3, 1, 1, 2), true}, // the first block alone
		{zeros, 0, 7, of(3, 4, 1, 2), true},
		{zeros, 0, 8, zeros, true}, // all
		{zeros, 0, 64, zeros, true},
		{zeros, 3, 5, zeros, true},
		{zeros, 3, 64, zeros, true},
		{zeros, 2, 6, zeros, true},
		{zeros, 4, 3, of(4, 3, 1, 2), true}, // neither the first nor the last one
		{zeros, 3, 1, of(3, 1, 1, 2), true},
		{zeros, 5, 1, of(5, 1, 1, 2), true},
		{zeros, 7, 1, of(7, 1, 1, 2), true}, // the last block alone
		{zeros, 7, 64, of(7, 1, 1, 2), true},
		{zeros, 8, 1, none, false}, // it begins behind the last block
		{zeros, 8, 64, none, false},
		{zeros, 64, 64, none, false},
		{zeros, 64, 0, none, false},
		{zeros, 3, 0, none, false}, // no block at all
		{zeros, 5, 0, none, false},
		{zeros, 0, 0, none, false},
		{zeros, 0, 65, none, false}, // beyond 64
		{zeros, 3, 65, none, false},
		{zeros, 65, 1, none, false},
		{zeros, -1, 9, none, false}, // below 0
		{zeros, -1, 64, none, false},
		{zeros, 3, -1, none, false},
		{zeros, 9, -5, none, false},
		{zeros, 0, math.MaxInt, none, false},
		{zeros, 3, math.MaxInt, none, false},
		{zeros, math.MaxInt, math.MaxInt, none, false},
		{zeros, math.MinInt, math.MaxInt, none, false},
		{zeros, math.MinInt, math.MinInt, none, false},
		{zeros, math.MaxInt, 1, none, false},
		{zeros, 0, math.MinInt, none, false},
		{hole, 0, 64, hole, true},
		{hole, 63, 1, of(63, 1, 0, maxGen), true},
		{hole, 63, 64, of(63, 1, 0, maxGen), true},
		{hole, 64, 1, none, false},
		{hole, 64, 64, none, false},
		{hole, 1, 62, of(1, 62, 0, maxGen), true},
		{data, 0, 64, data, true},
		{data, 61, 3, data, true},
		{data, 0, 61, none, false},
		{data, 0, 62, api.Extent{Lba: 61, Len: 1, Kind: 2, Gen: 7, Data: text[:32]}, true},
		{data, 62, 1, api.Extent{Lba: 62, Len: 1, Kind: 2, Gen: 7, Data: text[32:64]}, true},
		{data, 62, 64, api.Extent{Lba: 62, Len: 2, Kind: 2, Gen: 7, Data: text[32:]}, true},
		{data, 63, 1, api.Extent{Lba: 63, Len: 1, Kind: 2, Gen: 7, Data: text[64:]}, true},
		{data, 64, 64, none, false},
	} {
		if x, is := extent.Cut(c.x, c.lba, c.n); !same(x, c.want) || is != c.is {
			t.Errorf("%d: Cut(%d to %d, %d, %d): %+v, %v", i, c.x.Lba, c.x.Lba+c.x.Len-1, c.lba, c.n, x, is)
		}
	}
}

// P7.2: each lba and n from below 0 to beyond 64, and at an int's ends.
func TestCutOfAll(t *testing.T) {
	places := append(slices.Clone(far), -3)
	for i := range blocks + 1 {
		places = append(places, i)
	}
	for _, x := range []api.Extent{of(3, 5, 1, 2), of(0, 64, 2, maxGen), of(0, 1, 0, 0), of(63, 1, 2, 7), of(30, 34, 2, 1), of(1, 62, 0, 9)} {
		for _, lba := range places {
			for _, n := range places {
				want, is := cut(x, lba, n)
				if got, ok := extent.Cut(x, lba, n); !same(got, want) || ok != is {
					t.Errorf("Cut of Lba %d, Len %d, Kind %d, at %d, %d: Lba %d, Len %d, %d bytes, %v", x.Lba, x.Len, x.Kind, lba, n, got.Lba, got.Len, len(got.Data), ok)
				}
			}
		}
	}
}

// P7.2, R2: an empty one, and false, of one that may not be.
func TestCutOfWrongExtents(t *testing.T) {
	for i, x := range wrongExtents() {
		for _, c := range [][2]int{{0, 64}, {0, 1}, {3, 5}, {3, 1}, {63, 1}, {0, 0}, {64, 64}, {x.Lba, x.Len}, {-1, 65}, {math.MinInt, math.MaxInt}} {
			if got, ok := extent.Cut(x, c[0], c[1]); ok || !same(got, api.Extent{}) {
				t.Errorf("%d: Cut of Lba %d, Len %d, Kind %d, at %v: %+v", i, x.Lba, x.Len, x.Kind, c, got)
			}
		}
	}
}

// P7.2: pairs that join, and pairs that do not, each for one thing alone.
func TestJoins(t *testing.T) {
	full := of(0, 64, 1, 2)
	for i, c := range []struct {
		a, b api.Extent
		is   bool
	}{
		{of(3, 5, 1, 2), of(8, 1, 1, 2), true},
		{of(0, 1, 0, 0), of(1, 63, 0, 0), true},
		{of(0, 63, 2, maxGen), of(63, 1, 2, maxGen), true},
		{of(20, 4, 2, 5), of(24, 7, 2, 5), true},
		{of(8, 1, 1, 2), of(3, 5, 1, 2), false}, // the other way round
		{of(3, 5, 1, 2), of(9, 1, 1, 2), false}, // a block between
		{of(3, 5, 1, 2), of(7, 1, 1, 2), false}, // one of both
		{of(3, 5, 1, 2), of(3, 5, 1, 2), false}, // all of both
		{of(3, 5, 1, 2), of(8, 1, 0, 2), false}, // unlike kinds
		{of(3, 5, 0, 2), of(8, 1, 1, 2), false},
		{of(3, 5, 2, 2), of(8, 1, 1, 2), false},
		{of(3, 5, 0, 2), of(8, 1, 2, 2), false},
		{of(3, 5, 1, 2), of(8, 1, 1, 3), false}, // unlike generations
		{of(3, 5, 1, 2), of(8, 1, 1, 1), false},
		{of(3, 5, 2, 0), of(8, 1, 2, maxGen), false},
		{full, api.Extent{Lba: 64, Len: 1, Kind: 1, Gen: 2}, false}, // ones that may not be
		{full, api.Extent{Lba: 64, Kind: 1, Gen: 2}, false},
		{api.Extent{Lba: 3, Kind: 1, Gen: 2}, of(3, 5, 1, 2), false},
		{api.Extent{Lba: -1, Len: 1, Kind: 1, Gen: 2}, of(0, 5, 1, 2), false},
		{api.Extent{Lba: 9, Len: -1, Kind: 1, Gen: 2}, of(8, 5, 1, 2), false},
		{of(3, 5, 1, 2), api.Extent{Lba: 8, Len: -1, Kind: 1, Gen: 2}, false},
		{of(3, 5, 3, 2), of(8, 1, 3, 2), false},
		{of(3, 5, -1, 2), of(8, 1, -1, 2), false},
		{of(3, 5, 1, -1), of(8, 1, 1, -1), false},
		{of(3, 5, 2, maxGen+1), of(8, 1, 2, maxGen+1), false},
		{of(3, 5, 2, 2), api.Extent{Lba: 8, Len: 1, Kind: 2, Gen: 2}, false},
		{api.Extent{Lba: 3, Len: 5, Kind: 2, Gen: 2}, of(8, 1, 2, 2), false},
		{api.Extent{Lba: math.MaxInt, Len: 1, Kind: 1}, api.Extent{Lba: math.MinInt, Len: 1, Kind: 1}, false},
		{api.Extent{}, api.Extent{}, false},
	} {
		if got := extent.Joins(c.a, c.b); got != c.is {
			t.Errorf("%d: Joins: %v", i, got)
		}
		want, _ := joined(c.a, c.b)
		got, e := extent.Join(c.a, c.b)
		if !same(got, want) || (e == api.OK) != c.is || e != api.OK && e != api.ErrExtent {
			t.Errorf("%d: Join: %+v, %d", i, got, e)
		}
	}
}

// P7.2: what is joined, told in full: the bytes of both, one behind the other.
func TestJoinOfData(t *testing.T) {
	a := api.Extent{Lba: 10, Len: 1, Kind: 2, Gen: 4, Data: bytes.Repeat([]byte{1}, 32)}
	b := api.Extent{Lba: 11, Len: 2, Kind: 2, Gen: 4, Data: append(bytes.Repeat([]byte{2}, 32), bytes.Repeat([]byte{3}, 32)...)}
	want := api.Extent{Lba: 10, Len: 3, Kind: 2, Gen: 4, Data: slices.Concat(a.Data, b.Data)}
	if x, e := extent.Join(a, b); e != api.OK || !same(x, want) {
		t.Errorf("%+v, %d", x, e)
	}
	if x, e := extent.Join(b, a); e != api.ErrExtent || !same(x, api.Extent{}) {
		t.Errorf("the other way round: %+v, %d", x, e)
	}
	if x, e := extent.Join(of(0, 3, 0, 1), of(3, 4, 0, 1)); e != api.OK || !same(x, of(0, 7, 0, 1)) {
		t.Errorf("holes: %+v, %d", x, e)
	}
}

// P7.2, R2: Joins and Join of all with all, right ones and wrong ones; an empty one beside an error.
func TestJoinOfAllPairs(t *testing.T) {
	all := slices.Concat(rightExtents(), wrongExtents())
	for _, kind := range kinds {
		for _, gen := range []int{0, 1, 2, maxGen} {
			all = append(all, of(8, 1, kind, gen), of(8, 56, kind, gen), of(1, 2, kind, gen))
		}
	}
	for _, a := range all {
		for _, b := range all {
			want, is := joined(a, b)
			got, e := extent.Join(a, b)
			if extent.Joins(a, b) != is || !same(got, want) || (e == api.OK) != is || e != api.OK && e != api.ErrExtent {
				t.Errorf("Join of %d, %d, %d, %d and %d, %d, %d, %d: %d", a.Lba, a.Len, a.Kind, a.Gen, b.Lba, b.Len, b.Kind, b.Gen, e)
			}
		}
	}
}

// P7.3: a list byte by byte: how many, and of each Lba, Len, Kind, Gen, the lowest byte first, and Data.
func TestWriteByteByByte(t *testing.T) {
	text := mixed(64, 5)
	for i, c := range []struct {
		l    []api.Extent
		want []byte
	}{
		{nil, []byte{0}},
		{[]api.Extent{of(3, 5, 1, 2)}, []byte{1, 3, 5, 1, 2, 0, 0, 0}},
		{[]api.Extent{of(0, 64, 0, maxGen)}, []byte{1, 0, 64, 0, 255, 255, 255, 127}},
		{[]api.Extent{{Lba: 62, Len: 2, Kind: 2, Gen: 0x01020304, Data: text}}, append([]byte{1, 62, 2, 2, 4, 3, 2, 1}, text...)},
		{[]api.Extent{{Lba: 62, Len: 2, Kind: 2, Data: text}, of(63, 1, 0, 256), of(0, 1, 1, 65536)}, slices.Concat([]byte{3, 62, 2, 2, 0, 0, 0, 0}, text, []byte{63, 1, 0, 0, 1, 0, 0, 0, 1, 1, 0, 0, 1, 0})},
	} {
		if b, e := extent.Write(c.l...); e != api.OK || !bytes.Equal(b, c.want) {
			t.Errorf("%d: %v, %d", i, b, e)
		}
	}
	if b, e := extent.Write(); e != api.OK || !bytes.Equal(b, []byte{0}) {
		t.Errorf("no arguments: %v, %d", b, e)
	}
}

// P7.3: lists that may be, of none, of one, of 64.
func TestWriteOfRightLists(t *testing.T) {
	for i, l := range lists() {
		if b, e := extent.Write(l...); e != api.OK || !bytes.Equal(b, written(l...)) {
			t.Errorf("%d: Write of %d: %d bytes, %d", i, len(l), len(b), e)
		}
	}
}

// P7.3, R2: one that may not be, alone, and at each place; no bytes beside the error.
func TestWriteOfWrongExtents(t *testing.T) {
	for i, x := range wrongExtents() {
		for at := range 4 {
			l := slices.Insert([]api.Extent{of(0, 2, 2, 1), of(2, 1, 0, 1), of(3, 4, 1, 1)}, at, x)
			if b, e := extent.Write(l...); e != api.ErrExtent || len(b) != 0 {
				t.Errorf("%d: Write with Lba %d, Len %d, Kind %d at %d: %d bytes, %d", i, x.Lba, x.Len, x.Kind, at, len(b), e)
			}
		}
		if b, e := extent.Write(x); e != api.ErrExtent || len(b) != 0 {
			t.Errorf("%d: Write of Lba %d, Len %d, Kind %d: %d bytes, %d", i, x.Lba, x.Len, x.Kind, len(b), e)
		}
	}
	last := append(slices.Repeat([]api.Extent{of(0, 1, 0, 0)}, 63), api.Extent{})
	if b, e := extent.Write(last...); e != api.ErrExtent || len(b) != 0 {
		t.Errorf("the last one of 64: %d bytes, %d", len(b), e)
	}
}

// P7.3, R2: more than 64, though each may be.
func TestWriteOfTooMany(t *testing.T) {
	for _, n := range []int{65, 66, 128, 255, 256, 257, 320, 1000} {
		for _, x := range []api.Extent{of(0, 1, 0, 0), of(3, 5, 2, 7), {}} {
			if b, e := extent.Write(slices.Repeat([]api.Extent{x}, n)...); e != api.ErrExtent || len(b) != 0 {
				t.Errorf("Write of %d: %d bytes, %d", n, len(b), e)
			}
		}
	}
	if b, e := extent.Write(slices.Repeat([]api.Extent{of(0, 1, 0, 0)}, 64)...); e != api.OK || len(b) != 1+64*7 {
		t.Errorf("Write of 64: %d bytes, %d", len(b), e)
	}
}

// P7.3, P7.4: extents are read as they were written.
func TestReadOfWhatWasWritten(t *testing.T) {
	for i, l := range lists() {
		b, _ := extent.Write(l...)
		isRead(t, b, l, "list %d", i)
	}
	for _, gen := range gens {
		for _, kind := range kinds {
			l := []api.Extent{of(3, 5, kind, gen)}
			b, _ := extent.Write(l...)
			isRead(t, b, l, "Kind %d, Gen %d", kind, gen)
		}
	}
}

// P7.3, P7.4: each extent of blocks that there are, of each Kind.
func TestReadOfAllBlocks(t *testing.T) {
	for lba := range blocks {
		for n := 1; n <= blocks-lba; n++ {
			l := []api.Extent{of(lba, n, 0, 1), of(lba, n, 1, n), of(lba, n, 2, lba)}
			b, e := extent.Write(l...)
			if e != api.OK || !bytes.Equal(b, written(l...)) {
				t.Errorf("Write of Lba %d, Len %d: %d bytes, %d", lba, n, len(b), e)
			}
			isRead(t, b, l, "Lba %d, Len %d", lba, n)
		}
	}
}

// P7.3, R2: what was written, cut off at each byte, at its end and at its beginning.
func TestReadOfFewBytes(t *testing.T) {
	isNone(t, nil, "nil")
	isNone(t, []byte{}, "no bytes")
	isRead(t, []byte{0}, nil, "a list of none")
	for i, l := range lists() {
		b := written(l...)
		if len(b) > 3000 {
			continue
		}
		for n := range len(b) {
			isNone(t, b[:n], "list %d, %d of %d bytes", i, n, len(b))
			isNone(t, slices.Clip(slices.Clone(b[:n])), "list %d, %d of %d bytes, without spare room", i, n, len(b))
			isReadBy(t, b[len(b)-n:], "list %d, the last %d of %d bytes", i, n, len(b))
		}
	}
}

// P7.3, R2: bytes behind, however few or many, also such as are extents.
func TestReadWithBytesBehind(t *testing.T) {
	behind := [][]byte{{0}, {1}, {255}, {0, 0}, make([]byte, 7), make([]byte, 32), make([]byte, 39), written(of(0, 1, 0, 0)), written(of(0, 1, 0, 0))[1:], written(of(0, 2, 2, 3))[1:], mixed(5000, 6)}
	for i, l := range lists() {
		b := written(l...)
		for j, more := range behind {
			isNone(t, slices.Concat(b, more), "list %d, behind %d", i, j)
		}
		isNone(t, slices.Concat(b, b), "list %d, twice", i)
	}
}

// P7.3, R2: what was written, with each byte changed to each other one.
func TestReadOfChangedBytes(t *testing.T) {
	for i, l := range [][]api.Extent{{}, {of(3, 5, 1, 2)}, {of(0, 1, 2, 0)}, {of(62, 2, 2, 7), of(0, 64, 0, maxGen), of(5, 1, 2, 256)}, {of(0, 64, 1, 0), of(1, 2, 0, 1<<24)}} {
		b := written(l...)
		for at := range b {
			for c := range 256 {
				changed := slices.Clone(b)
				changed[at] = byte(c)
				isReadBy(t, changed, "list %d, byte %d to %d", i, at, c)
			}
		}
	}
}

// P7.3, R2: bytes of extents that may not be, as many as are told, and bytes that tell other numbers.
func TestReadOfWrongBytes(t *testing.T) {
	long := make([]byte, 66*block)
	for i, b := range [][]byte{
		{1, 0, 0, 0, 0, 0, 0, 0}, // a Len of 0
		{1, 0, 65, 0, 0, 0, 0, 0},
		{1, 60, 5, 1, 0, 0, 0, 0},
		{1, 64, 1, 0, 0, 0, 0, 0},
		{1, 255, 1, 0, 0, 0, 0, 0},
		{1, 1, 255, 0, 0, 0, 0, 0},
		{1, 255, 255, 0, 0, 0, 0, 0},
		{1, 3, 5, 3, 2, 0, 0, 0}, // a Kind of 3
		{1, 3, 5, 255, 2, 0, 0, 0},
		{1, 3, 5, 1, 0, 0, 0, 128}, // a Gen of 2^31
		{1, 3, 5, 1, 255, 255, 255, 255},
		append([]byte{1, 3, 1, 3, 2, 0, 0, 0}, long[:32]...),
		append([]byte{1, 0, 65, 2, 0, 0, 0, 0}, long[:65*block]...),
		append([]byte{1, 63, 2, 2, 0, 0, 0, 0}, long[:64]...),
		append([]byte{1, 0, 1, 2, 0, 0, 0, 128}, long[:32]...),
		append([]byte{1, 0, 1, 1, 0, 0, 0, 0}, long[:32]...), // zeros with bytes
		append([]byte{1, 0, 1, 0, 0, 0, 0, 0}, long[:32]...),
		{1, 0, 0, 2, 0, 0, 0, 0}, // data of no blocks
		{1, 0, 1, 2, 0, 0, 0, 0}, // data without bytes
		{1}, {2, 3, 5, 1, 2, 0, 0, 0}, {0, 3, 5, 1, 2, 0, 0, 0}, {0, 0}, {64}, {65}, {255},
		append([]byte{2, 3, 5, 1, 2, 0, 0, 0}, 8, 1, 3, 2, 0, 0, 0), // the second one alone
		append([]byte{2, 3, 0, 1, 2, 0, 0, 0}, 8, 1, 1, 2, 0, 0, 0), // the first one alone
	} {
		isNone(t, b, "%d", i)
	}
	for _, n := range []int{65, 66, 128, 255} {
		one := written(of(0, 1, 0, 0))[1:]
		isNone(t, append([]byte{byte(n)}, bytes.Repeat(one, n)...), "%d of which each may be", n)
	}
	for n := range 300 {
		isReadBy(t, make([]byte, n), "%d zeros", n)
		isReadBy(t, bytes.Repeat([]byte{255}, n), "%d bytes of 255", n)
		isReadBy(t, bytes.Repeat([]byte{1}, n), "%d bytes of 1", n)
		isReadBy(t, bytes.Repeat([]byte{2}, n), "%d bytes of 2", n)
		isReadBy(t, mixed(n, uint32(n)), "%d mixed bytes", n)
	}
}

// P7.4: the parts of an extent, two at each block, and one a block, are joined to it.
func TestPartsAreJoined(t *testing.T) {
	for i, x := range rightExtents() {
		for n := 1; n < x.Len; n++ {
			a, isA := extent.Cut(x, x.Lba, n)
			b, isB := extent.Cut(x, x.Lba+n, x.Len-n)
			if !isA || !isB || !extent.Joins(a, b) {
				t.Errorf("%d: parts of %d blocks and the rest do not join", i, n)
			}
			if both, e := extent.Join(a, b); e != api.OK || !same(both, x) {
				t.Errorf("%d: parts of %d blocks and the rest: Lba %d, Len %d, %d", i, n, both.Lba, both.Len, e)
			}
		}
		all, _ := extent.Cut(x, x.Lba, 1)
		for n := 1; n < x.Len; n++ {
			one, is := extent.Cut(x, x.Lba+n, 1)
			more, e := extent.Join(all, one)
			if !is || e != api.OK {
				t.Errorf("%d: block %d does not join: %d", i, n, e)
			}
			all = more
		}
		if !same(all, x) {
			t.Errorf("%d: all blocks: Lba %d, Len %d, %d bytes", i, all.Lba, all.Len, len(all.Data))
		}
	}
}

// P7.4: Bytes of parts are those of all, and so are Bytes of what is read.
func TestBytesOfParts(t *testing.T) {
	for i, x := range rightExtents() {
		var all []byte
		for n := range x.Len {
			one, _ := extent.Cut(x, x.Lba+n, 1)
			all = append(all, extent.Bytes(one)...)
		}
		l, _ := extent.Read(written(x))
		if want := extent.Bytes(x); !bytes.Equal(all, want) || len(l) != 1 || !bytes.Equal(extent.Bytes(l[0]), want) {
			t.Errorf("%d: %d bytes of parts, not %d", i, len(all), len(want))
		}
	}
}

// R4: what is handed in is left as it was, its spare room too.
func TestArgumentsAreLeft(t *testing.T) {
	for i, x := range slices.Concat(rightExtents(), wrongExtents()[:60]) {
		x, y := spared(x), spared(of(8, 2, 2, 5))
		z := spared(of(10, 1, 2, 5))
		before := [][]byte{whole(x.Data), whole(y.Data), whole(z.Data)}
		list := append(make([]api.Extent, 0, 9), x, y, z)
		extent.Check(x)
		extent.Bytes(x)
		extent.Cut(x, 0, 64)
		extent.Cut(x, x.Lba, 1)
		extent.Joins(x, y)
		extent.Join(x, x)
		extent.Join(y, z)
		extent.Write(list...)
		after := [][]byte{whole(x.Data), whole(y.Data), whole(z.Data)}
		if !slices.EqualFunc(before, after, bytes.Equal) {
			t.Errorf("%d: Data was changed", i)
		}
		if !same(list[0], x) || !same(list[1], y) || !same(list[2], z) || !slices.EqualFunc(list[3:9], make([]api.Extent, 6), same) {
			t.Errorf("%d: the list was changed", i)
		}
	}
	for i, l := range lists() {
		b := withSpare(written(l...))
		before := whole(b)
		extent.Read(b)
		extent.Read(b[:len(b)-1])
		if !bytes.Equal(before, whole(b)) {
			t.Errorf("%d: the bytes were changed", i)
		}
	}
}

// R4: answers are in memory of their own: writing over them changes no argument, and the other way round.
func TestAnswersAreNew(t *testing.T) {
	for i, x := range rightExtents() {
		x := spared(x)
		before := whole(x.Data)
		keep := deep(x)
		b := extent.Bytes(x)
		part, _ := extent.Cut(x, x.Lba, x.Len)
		last, _ := extent.Cut(x, x.Lba+x.Len-1, 1)
		w, _ := extent.Write(x, x)
		answers := [][]byte{b, part.Data, last.Data, w}
		var told [][]byte
		for _, a := range answers {
			told = append(told, slices.Clone(a))
		}
		fill(x.Data, 0x55)
		if !slices.EqualFunc(answers, told, bytes.Equal) || !same(part, keep) {
			t.Errorf("%d: an answer shares an argument's memory", i)
		}
		copy(x.Data[:cap(x.Data)], before)
		for _, a := range answers {
			fill(a, 0x77)
		}
		if !bytes.Equal(whole(x.Data), before) {
			t.Errorf("%d: an argument shares an answer's memory", i)
		}
	}
}

// R4: what is joined shares memory with neither of both.
func TestJoinIsNew(t *testing.T) {
	for _, kind := range kinds {
		a, b := spared(of(3, 5, kind, 2)), spared(of(8, 1, kind, 2))
		beforeA, beforeB := whole(a.Data), whole(b.Data)
		both, _ := extent.Join(a, b)
		keep := deep(both)
		fill(a.Data, 0x55)
		fill(b.Data, 0x66)
		if !same(both, keep) {
			t.Errorf("Kind %d: the answer shares an argument's memory", kind)
		}
		copy(a.Data[:cap(a.Data)], beforeA)
		copy(b.Data[:cap(b.Data)], beforeB)
		fill(both.Data, 0x77)
		if !bytes.Equal(whole(a.Data), beforeA) || !bytes.Equal(whole(b.Data), beforeB) {
			t.Errorf("Kind %d: an argument shares the answer's memory", kind)
		}
	}
}

// R4: what is read shares memory neither with the bytes, nor one extent with another.
func TestReadIsNew(t *testing.T) {
	for i, l := range lists() {
		b := withSpare(written(l...))
		before := whole(b)
		got, _ := extent.Read(b)
		fill(b, 0x55)
		if !slices.EqualFunc(got, l, same) {
			t.Errorf("%d: the extents share the bytes' memory", i)
		}
		copy(b[:cap(b)], before)
		for j := range got {
			fill(got[j].Data, 0x77)
			if j+1 < len(got) && !slices.EqualFunc(got[j+1:], l[j+1:], same) {
				t.Errorf("%d: extent %d shares memory with one behind it", i, j)
			}
		}
		for j := len(got) - 1; j >= 0; j-- {
			copy(got[j].Data, l[j].Data)
			if !slices.EqualFunc(got[j:], l[j:], same) {
				t.Errorf("%d: extent %d shares memory with one behind it", i, j)
			}
		}
		if !bytes.Equal(whole(b), before) {
			t.Errorf("%d: the bytes share the extents' memory", i)
		}
	}
}

// R5: an answer hangs neither on a capacity, nor on what was asked ahead.
func TestAnswersHangOnArgumentsAlone(t *testing.T) {
	for i, x := range slices.Concat(rightExtents(), wrongExtents()) {
		y := spared(x)
		if extent.Check(x) != extent.Check(y) || !bytes.Equal(extent.Bytes(x), extent.Bytes(y)) {
			t.Errorf("%d: Check or Bytes", i)
		}
		a, isA := extent.Cut(x, 2, 60)
		b, isB := extent.Cut(y, 2, 60)
		if !same(a, b) || isA != isB {
			t.Errorf("%d: Cut", i)
		}
		v, e := extent.Write(x)
		w, f := extent.Write(y)
		if !bytes.Equal(v, w) || e != f {
			t.Errorf("%d: Write", i)
		}
		isReadBy(t, withSpare(v), "%d", i)
	}
}
