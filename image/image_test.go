package image_test

import (
	"bytes"
	"math"
	"slices"
	"testing"

	"waggoner/api"
	"waggoner/extmap"
	"waggoner/image"
)

// The numbers of the chapters, not api's, so that both are held against each other.
const (
	block  = 32
	blocks = 64
	maxGen = 1<<31 - 1
)

// kinds are all that a block may be.
var kinds = []int{0, 1, 2}

// noKinds are none; some have the lowest byte of one.
var noKinds = []int{-1, 3, 4, 7, -2, 255, 256, 257, 258, 1 << 32, 1<<32 + 1, 1<<32 + 2, math.MinInt, math.MinInt + 1, math.MinInt + 2, math.MaxInt}

// gens are some generations, at the limits and between.
var gens = []int{0, 1, 2, 258, 1 << 16, 1 << 30, maxGen - 1, maxGen}

// noGens are none; some have the lowest bytes of one.
var noGens = []int{-1, -2, maxGen + 1, maxGen + 2, 1 << 32, 1<<32 + 1, -1 << 31, -1 << 32, -1<<32 + 1, math.MinInt, math.MinInt + 1, math.MaxInt - 1, math.MaxInt}

// far are numbers at the limits of blocks, and at the ends of what an int holds, where some go round when they are added.
var far = []int{math.MinInt, math.MinInt + 1, math.MinInt + 8, math.MinInt + 63, math.MinInt + 64, math.MinInt + 65, -1 << 32, -1<<32 + 8, -1 << 31, -256, -65, -64, -63, -9, -8, -7, -2, -1, 0, 1, 2, 7, 8, 9, 63, 64, 65, 128, 255, 256, 257, 264, 320, 1 << 31, 1 << 32, 1<<32 + 1, 1<<32 + 8, 1 << 58, 1<<58 + 1, 1 << 59, 1<<59 + 1, math.MaxInt - 64, math.MaxInt - 63, math.MaxInt - 8, math.MaxInt - 7, math.MaxInt - 1, math.MaxInt}

// mixed are n bytes of all kinds, the same ones for the same seed.
func mixed(n int, seed uint32) []byte {
	out := make([]byte, n)
	for i := range out {
		seed = seed*1664525 + 1013904223
		out[i] = byte(seed >> 24)
	}
	return out
}

// dice throws numbers from 0 on that are less than n, the same ones for the same seed.
type dice uint32

func (d *dice) throw(n int) int {
	*d = *d*1664525 + 1013904223
	return int(*d>>8) % n
}

func hole(gen int) api.Cell { return api.Cell{Gen: gen} }

func zero(gen int) api.Cell { return api.Cell{Kind: 1, Gen: gen} }

func data(gen int, seed uint32) api.Cell {
	return api.Cell{Kind: 2, Gen: gen, Data: [block]byte(mixed(block, seed))}
}

// of is a block of a Kind.
func of(kind, gen int, seed uint32) api.Cell {
	if kind == 2 {
		return data(gen, seed)
	}
	return api.Cell{Kind: kind, Gen: gen}
}

// some are n blocks, each one as c, but that no two that are data have the same bytes.
func some(n int, c api.Cell) []api.Cell {
	out := slices.Repeat([]api.Cell{c}, n)
	for i := range out {
		if c.Kind == 2 {
			out[i] = data(c.Gen, uint32(i)+1)
		}
	}
	return out
}

// thrown are n blocks by dice, of so few generations that many join.
func thrown(n int, d *dice) []api.Cell {
	out := make([]api.Cell, n)
	for i := range out {
		out[i] = of(d.throw(3), d.throw(2), uint32(d.throw(1000)))
	}
	return out
}

// images are some: of one block, of some, of all; of all Kinds, at all edges of Gen.
func images() [][]api.Cell {
	out := [][]api.Cell{
		{hole(0), hole(0), zero(1), zero(1), zero(1), hole(0), hole(0), hole(0)},
		{data(5, 1), data(5, 2), data(4, 3), hole(4), zero(4), data(4, 4), data(4, 5), zero(5)},
		{data(0, 7), {Kind: 2}, {Kind: 2, Gen: maxGen}, hole(maxGen), zero(maxGen)},
		{{Kind: 2, Data: [block]byte{0: 1}}, {Kind: 2, Data: [block]byte{31: 1}}, hole(0)},
	}
	d := dice(3)
	for _, n := range []int{1, 2, 3, 8, 63, 64} {
		for _, kind := range kinds {
			for _, gen := range []int{0, 1, 258, maxGen} {
				out = append(out, some(n, of(kind, gen, 1)))
			}
		}
		turns := make([]api.Cell, n)
		for i := range turns {
			turns[i] = of(i%3, 4, uint32(i))
		}
		out = append(out, turns, thrown(n, &d), thrown(n, &d), thrown(n, &d))
	}
	return out
}

// wrongCells are some that may not be, for one thing or for several.
func wrongCells() []api.Cell {
	var out []api.Cell
	for _, kind := range noKinds {
		out = append(out, api.Cell{Kind: kind}, api.Cell{Kind: kind, Gen: 1, Data: [block]byte(mixed(block, 1))})
	}
	for _, gen := range noGens {
		out = append(out, hole(gen), zero(gen), data(gen, 1), api.Cell{Kind: 3, Gen: gen})
	}
	for _, kind := range []int{0, 1} {
		for _, at := range []int{0, 1, 15, 30, 31} {
			for _, b := range []byte{1, 128, 255} {
				c := api.Cell{Kind: kind, Gen: 1}
				c.Data[at] = b
				out = append(out, c)
			}
		}
		out = append(out, api.Cell{Kind: kind, Gen: -1, Data: [block]byte(mixed(block, 2))})
	}
	return out
}

// noImages are blocks that may not be: too few or too many, or with one that is wrong, alone and among others.
func noImages() [][]api.Cell {
	out := [][]api.Cell{nil, {}, some(65, hole(0)), some(65, zero(1)), some(65, data(1, 1)), some(66, hole(0)), some(128, zero(1)), some(256, hole(0)), some(257, hole(0)), some(320, data(1, 1)), some(65536+8, hole(0))}
	for _, c := range wrongCells() {
		first, last, between := some(64, zero(2)), some(64, data(2, 1)), some(8, hole(0))
		first[0], last[63], between[4] = c, c, c
		out = append(out, []api.Cell{c}, []api.Cell{c, c}, first, last, between)
	}
	return out
}

// isRight is the chapter's word of blocks, in its order.
func isRight(l []api.Cell) bool {
	if len(l) == 0 || len(l) > blocks {
		return false
	}
	for _, c := range l {
		if !slices.Contains(kinds, c.Kind) || c.Gen < 0 || c.Gen > maxGen {
			return false
		}
		if c.Kind != 2 && !bytes.Equal(c.Data[:], make([]byte, block)) {
			return false
		}
	}
	return true
}

// mapOf is the map of blocks, one by one: of those one behind the other that are of one Kind and Gen an extent.
func mapOf(l []api.Cell) []api.Extent {
	var m []api.Extent
	for lba, c := range l {
		if lba == 0 || l[lba-1].Kind != c.Kind || l[lba-1].Gen != c.Gen {
			m = append(m, api.Extent{Lba: lba, Kind: c.Kind, Gen: c.Gen})
		}
		x := &m[len(m)-1]
		x.Len++
		if c.Kind == 2 {
			x.Data = append(x.Data, c.Data[:]...)
		}
	}
	return m
}

// with are blocks, those from lba on others.
func with(l []api.Cell, lba int, others ...api.Cell) []api.Cell {
	return slices.Concat(l[:lba], others, l[lba+len(others):])
}

// written are blocks of data, by bytes.
func written(gen int, b []byte) []api.Cell {
	var out []api.Cell
	for c := range slices.Chunk(b, block) {
		out = append(out, api.Cell{Kind: 2, Gen: gen, Data: [block]byte(c)})
	}
	return out
}

// bytesOf are those of blocks.
func bytesOf(l []api.Cell) []byte {
	var out []byte
	for _, c := range l {
		for _, b := range c.Data {
			out = append(out, b)
		}
	}
	return out
}

// same tells whether two extents are alike.
func same(a, b api.Extent) bool {
	return a.Lba == b.Lba && a.Len == b.Len && a.Kind == b.Kind && a.Gen == b.Gen && bytes.Equal(a.Data, b.Data)
}

// brief tells blocks in few words: of each its Kind, its Gen, and the first and the last byte.
func brief(l []api.Cell) [][4]int {
	var out [][4]int
	for _, c := range l[:min(len(l), 70)] {
		out = append(out, [4]int{c.Kind, c.Gen, int(c.Data[0]), int(c.Data[block-1])})
	}
	return out
}

// briefMap tells a map in few words.
func briefMap(l []api.Extent) [][5]int {
	var out [][5]int
	for _, x := range l {
		out = append(out, [5]int{x.Lba, x.Len, x.Kind, x.Gen, len(x.Data)})
	}
	return out
}

// areCells says if blocks, or their error, are others than are wanted.
func areCells(t *testing.T, l []api.Cell, e api.Errno, want []api.Cell, wantE api.Errno, what string, numbers ...any) {
	t.Helper()
	if e != wantE || !slices.Equal(l, want) {
		t.Errorf(what+": %v, %d; not %v, %d", append(numbers, brief(l), e, brief(want), wantE)...)
	}
}

// isMap says if a map, or its error, is another one than is wanted.
func isMap(t *testing.T, l []api.Extent, e api.Errno, want []api.Extent, wantE api.Errno, what string, numbers ...any) {
	t.Helper()
	if e != wantE || !slices.EqualFunc(l, want, same) {
		t.Errorf(what+": %v, %d; not %v, %d", append(numbers, briefMap(l), e, briefMap(want), wantE)...)
	}
}

// areBytes says if bytes, or their error, are others than are wanted.
func areBytes(t *testing.T, b []byte, e api.Errno, want []byte, wantE api.Errno, what string, numbers ...any) {
	t.Helper()
	if e != wantE || !bytes.Equal(b, want) {
		t.Errorf(what+": %x, %d; not %x, %d", append(numbers, b, e, want, wantE)...)
	}
}

// P9.1, P9.2: the numbers of the chapter are api's.
func TestLimits(t *testing.T) {
	if api.Block != block || api.Blocks != blocks || api.MaxGen != maxGen || api.ErrMap != 80 || api.ErrRange != 81 || api.ErrImage != 90 {
		t.Errorf("%d, %d, %d, %d, %d, %d", api.Block, api.Blocks, api.MaxGen, api.ErrMap, api.ErrRange, api.ErrImage)
	}
	if l := []int{api.EHole, api.EZero, api.EData}; !slices.Equal(l, kinds) {
		t.Errorf("%v", l)
	}
}

// P9.1: as many blocks as there may be, and no others.
func TestCheckOfNumbersOfBlocks(t *testing.T) {
	for _, c := range []api.Cell{hole(0), zero(1), data(2, 1)} {
		for n := range 400 {
			if got := image.Check(some(n, c)); got != (n >= 1 && n <= 64) {
				t.Errorf("%d of Kind %d: %v", n, c.Kind, got)
			}
		}
	}
}

// P9.1: blocks of all Kinds and generations.
func TestCheckOfImages(t *testing.T) {
	for i, l := range images() {
		if !image.Check(l) {
			t.Errorf("%d: %v", i, brief(l))
		}
	}
}

// P9.1, R1: blocks that may not be, alone, first, last, and between.
func TestCheckOfNoImages(t *testing.T) {
	for i, l := range noImages() {
		if image.Check(l) {
			t.Errorf("%d: %v", i, brief(l))
		}
	}
}

// P9.1: Kinds of 0 to 2, and Gens of 0 to MaxGen, at each block.
func TestCheckOfKindsAndGens(t *testing.T) {
	for at := range 8 {
		for _, kind := range slices.Concat(kinds, noKinds) {
			for _, gen := range slices.Concat(gens, noGens) {
				for _, b := range []byte{0, 1} {
					l := some(8, hole(0))
					l[at] = api.Cell{Kind: kind, Gen: gen, Data: [block]byte{17: b}}
					if got := image.Check(l); got != isRight(l) {
						t.Errorf("block %d, Kind %d, Gen %d, byte %d: %v", at, kind, gen, b, got)
					}
				}
			}
		}
	}
}

// P9.1: each bit of a block that is not 0 is asked, unless it is data.
func TestCheckOfEachBit(t *testing.T) {
	for at := range block {
		for bit := range 8 {
			for _, kind := range kinds {
				c := api.Cell{Kind: kind, Gen: 1}
				c.Data[at] = 1 << bit
				for i := range 3 {
					if got := image.Check(with(some(3, zero(1)), i, c)); got != (kind == 2) {
						t.Errorf("byte %d, bit %d, Kind %d, block %d: %v", at, bit, kind, i, got)
					}
				}
			}
		}
	}
}

// P9.1: maps of each Kind, and of several extents.
func TestOf(t *testing.T) {
	text := mixed(3*block, 9)
	for i, c := range []struct {
		m    []api.Extent
		want []api.Cell
	}{
		{[]api.Extent{{Len: 1}}, []api.Cell{{}}},
		{[]api.Extent{{Len: 1, Kind: 1, Gen: 3}}, []api.Cell{{Kind: 1, Gen: 3}}},
		{[]api.Extent{{Len: 1, Kind: 2, Gen: maxGen, Data: text[:block]}}, []api.Cell{{Kind: 2, Gen: maxGen, Data: [block]byte(text)}}},
		{[]api.Extent{{Len: 3, Kind: 2, Gen: 5, Data: text}}, written(5, text)},
		{[]api.Extent{{Len: 2, Gen: 2}, {Lba: 2, Len: 3, Kind: 2, Gen: 2, Data: text}, {Lba: 5, Len: 1, Kind: 1, Gen: 2}, {Lba: 6, Len: 2, Kind: 1}},
			slices.Concat([]api.Cell{{Gen: 2}, {Gen: 2}}, written(2, text), []api.Cell{{Kind: 1, Gen: 2}, {Kind: 1}, {Kind: 1}})},
		{[]api.Extent{{Len: 1, Kind: 2, Gen: 1, Data: text[:block]}, {Lba: 1, Len: 2, Kind: 2, Gen: 2, Data: text[block:]}}, append(written(1, text[:block]), written(2, text[block:])...)},
		{[]api.Extent{{Len: 2, Kind: 2, Data: make([]byte, 2*block)}}, []api.Cell{{Kind: 2}, {Kind: 2}}},
		{[]api.Extent{{Len: 64, Gen: 7}}, some(64, hole(7))},
	} {
		l, e := image.Of(len(c.want), c.m)
		areCells(t, l, e, c.want, api.OK, "%d", i)
	}
}

// P9.1, R1, R2: lists that are no map of so many blocks.
func TestOfNoMap(t *testing.T) {
	right := []api.Extent{{Len: 2}, {Lba: 2, Len: 3, Kind: 1, Gen: 1}, {Lba: 5, Len: 3, Kind: 2, Gen: 1, Data: mixed(3*block, 1)}}
	lists := [][]api.Extent{nil, {}, {{}}, right[1:], right[:2], {right[0], right[2]}, {right[1], right[0], right[2]}, append(slices.Clone(right), right[2]),
		{{Len: 4}, {Lba: 4, Len: 4}}, {{Len: 4, Kind: 3}, {Lba: 4, Len: 4}}, {{Len: 4, Gen: -1}, {Lba: 4, Len: 4}}, {{Len: 4, Gen: maxGen + 1}, {Lba: 4, Len: 4}},
		{{Len: 8, Data: make([]byte, block)}}, {{Len: 8, Kind: 1, Data: make([]byte, 8*block)}}, {{Len: 8, Kind: 2}}, {{Len: 8, Kind: 2, Data: make([]byte, 8*block-1)}}, {{Len: 8, Kind: 2, Data: make([]byte, 8*block+1)}},
		{{Len: 5}, {Lba: 4, Len: 4, Kind: 1}}, {{Len: 3}, {Lba: 4, Len: 4, Kind: 1}}, {{Lba: 1, Len: 7}}, {{Lba: -1, Len: 9}}, {{Len: 7}}, {{Len: 9}}, {{Len: math.MaxInt}}, {{Lba: math.MinInt, Len: math.MinInt}}}
	for i, m := range lists {
		l, e := image.Of(8, m)
		areCells(t, l, e, nil, api.ErrMap, "%d", i)
	}
	for _, n := range far {
		l, e := image.Of(n, right)
		if n == 8 {
			areCells(t, l, e, []api.Cell{{}, {}, zero(1), zero(1), zero(1), {Kind: 2, Gen: 1, Data: l[5].Data}, {Kind: 2, Gen: 1, Data: l[6].Data}, {Kind: 2, Gen: 1, Data: l[7].Data}}, api.OK, "of 8")
			continue
		}
		areCells(t, l, e, nil, api.ErrMap, "of %d", n)
		l, e = image.Of(n, nil)
		areCells(t, l, e, nil, api.ErrMap, "of %d, none", n)
		if n < 1 || n > 64 {
			l, e = image.Of(n, []api.Extent{{Len: n}})
			areCells(t, l, e, nil, api.ErrMap, "of %d, all holes", n)
		}
	}
}

// P9.1: of 1 to 64 blocks, and no others.
func TestOfNumbersOfBlocks(t *testing.T) {
	for n := range 130 {
		want, wantE := some(n, hole(3)), api.OK
		if n < 1 || n > 64 {
			want, wantE = nil, api.ErrMap
		}
		l, e := image.Of(n, []api.Extent{{Len: n, Gen: 3}})
		areCells(t, l, e, want, wantE, "of %d", n)
	}
}

// P9.1: blocks that join, and that do not for their Kind or their Gen alone.
func TestMap(t *testing.T) {
	text := mixed(2*block, 4)
	both := written(6, text)
	for i, c := range []struct {
		l    []api.Cell
		want []api.Extent
	}{
		{[]api.Cell{hole(0)}, []api.Extent{{Len: 1}}},
		{[]api.Cell{zero(4)}, []api.Extent{{Len: 1, Kind: 1, Gen: 4}}},
		{both[:1], []api.Extent{{Len: 1, Kind: 2, Gen: 6, Data: text[:block]}}},
		{both, []api.Extent{{Len: 2, Kind: 2, Gen: 6, Data: text}}},
		{[]api.Cell{hole(3), hole(3)}, []api.Extent{{Len: 2, Gen: 3}}},
		{[]api.Cell{zero(3), zero(3)}, []api.Extent{{Len: 2, Kind: 1, Gen: 3}}},
		{[]api.Cell{hole(3), hole(4)}, []api.Extent{{Len: 1, Gen: 3}, {Lba: 1, Len: 1, Gen: 4}}},
		{[]api.Cell{zero(4), zero(3)}, []api.Extent{{Len: 1, Kind: 1, Gen: 4}, {Lba: 1, Len: 1, Kind: 1, Gen: 3}}},
		{[]api.Cell{hole(3), zero(3)}, []api.Extent{{Len: 1, Gen: 3}, {Lba: 1, Len: 1, Kind: 1, Gen: 3}}},
		{[]api.Cell{zero(3), hole(3)}, []api.Extent{{Len: 1, Kind: 1, Gen: 3}, {Lba: 1, Len: 1, Gen: 3}}},
		{[]api.Cell{zero(3), {Kind: 2, Gen: 3}}, []api.Extent{{Len: 1, Kind: 1, Gen: 3}, {Lba: 1, Len: 1, Kind: 2, Gen: 3, Data: make([]byte, block)}}},
		{[]api.Cell{{Kind: 2, Gen: 3}, {Kind: 2, Gen: 4}}, []api.Extent{{Len: 1, Kind: 2, Gen: 3, Data: make([]byte, block)}, {Lba: 1, Len: 1, Kind: 2, Gen: 4, Data: make([]byte, block)}}},
		{[]api.Cell{hole(0), both[0], both[1], hole(0), hole(0)}, []api.Extent{{Len: 1}, {Lba: 1, Len: 2, Kind: 2, Gen: 6, Data: text}, {Lba: 3, Len: 2}}},
		{some(64, zero(maxGen)), []api.Extent{{Len: 64, Kind: 1, Gen: maxGen}}},
		{some(64, data(1, 1)), []api.Extent{{Len: 64, Kind: 2, Gen: 1, Data: bytesOf(some(64, data(1, 1)))}}},
	} {
		m, e := image.Map(c.l)
		isMap(t, m, e, c.want, api.OK, "%d", i)
	}
}

// P9.1, R1, R2: of blocks that may not be there is no map.
func TestMapOfNoImage(t *testing.T) {
	for i, l := range noImages() {
		m, e := image.Map(l)
		isMap(t, m, e, nil, api.ErrImage, "%d", i)
	}
}

// goesBack says if blocks are not those of their map, which is to be a map and of them.
func goesBack(t *testing.T, l []api.Cell) {
	t.Helper()
	m, e := image.Map(l)
	isMap(t, m, e, mapOf(l), api.OK, "%v", brief(l))
	if !extmap.Check(len(l), m) {
		t.Errorf("%v: %v is no map", brief(l), briefMap(m))
	}
	back, e := image.Of(len(l), m)
	areCells(t, back, e, l, api.OK, "there and back")
	again, e := image.Map(back)
	isMap(t, again, e, m, api.OK, "there, back and there")
}

// P9.1, P9.4: blocks are those of their map, and a map that of its blocks.
func TestBlocksAreThoseOfTheirMap(t *testing.T) {
	for _, l := range images() {
		goesBack(t, l)
	}
	d := dice(17)
	for range 500 {
		goesBack(t, thrown(1+d.throw(64), &d))
	}
}

// P9.1, P9.4: all of up to three blocks, of all Kinds, and of three generations.
func TestAllSmallImages(t *testing.T) {
	var ones []api.Cell
	for _, kind := range kinds {
		for _, gen := range []int{0, 1, maxGen} {
			ones = append(ones, of(kind, gen, 5))
		}
	}
	ones = append(ones, api.Cell{Kind: 2, Gen: 1})
	for _, a := range ones {
		goesBack(t, []api.Cell{a})
		for _, b := range ones {
			goesBack(t, []api.Cell{a, b})
			for _, c := range ones {
				goesBack(t, []api.Cell{a, b, c})
			}
		}
	}
}

// The chapter's example.
func TestExample(t *testing.T) {
	l, e := image.Fill(some(8, hole(0)), 2, 3, 1, 1)
	areCells(t, l, e, []api.Cell{{}, {}, zero(1), zero(1), zero(1), {}, {}, {}}, api.OK, "Fill")
	m, e := image.Map(l)
	isMap(t, m, e, []api.Extent{{Len: 2}, {Lba: 2, Len: 3, Kind: 1, Gen: 1}, {Lba: 5, Len: 3}}, api.OK, "Map")
}

// partsOf are where some of n blocks may be: all parts of few, of many those at the edges.
func partsOf(n int) [][2]int {
	var out [][2]int
	for lba := range n {
		for many := 1; lba+many <= n; many++ {
			if n <= 8 || lba < 3 || lba+many == n && many < 4 || many == n-lba {
				out = append(out, [2]int{lba, many})
			}
		}
	}
	return out
}

// P9.2, P9.4: some blocks are so, wherever they are; all others are as they were.
func TestFill(t *testing.T) {
	for i, l := range images() {
		for j, p := range partsOf(len(l)) {
			for _, kind := range []int{0, 1} {
				gen := gens[(i+j)%len(gens)]
				got, e := image.Fill(l, p[0], p[1], kind, gen)
				areCells(t, got, e, with(l, p[0], some(p[1], of(kind, gen, 0))...), api.OK, "%d, %v, Kind %d, Gen %d", i, p, kind, gen)
			}
		}
	}
}

// P9.2, P9.4: what is written is data, by the bytes, also by bytes 0; all others are as they were.
func TestWrite(t *testing.T) {
	for i, l := range images() {
		for j, p := range partsOf(len(l)) {
			gen := gens[(i+j)%len(gens)]
			for _, b := range [][]byte{mixed(p[1]*block, uint32(j)), make([]byte, p[1]*block)} {
				got, e := image.Write(l, p[0], gen, b)
				areCells(t, got, e, with(l, p[0], written(gen, b)...), api.OK, "%d, %v, Gen %d", i, p, gen)
			}
		}
	}
}

// P9.2: one block, then the next one, by the bytes in their order.
func TestWriteOfTwoBlocks(t *testing.T) {
	b := slices.Concat(bytes.Repeat([]byte{1}, block), bytes.Repeat([]byte{2}, block))
	l, e := image.Write(some(4, zero(7)), 1, 2, b)
	one, two := api.Cell{Kind: 2, Gen: 2}, api.Cell{Kind: 2, Gen: 2}
	for i := range block {
		one.Data[i], two.Data[i] = 1, 2
	}
	areCells(t, l, e, []api.Cell{zero(7), one, two, zero(7)}, api.OK, "Write")
}

// P9.2: the bytes of blocks, wherever they are; of holes and zeros they are 0.
func TestRead(t *testing.T) {
	for i, l := range images() {
		for _, p := range partsOf(len(l)) {
			b, e := image.Read(l, p[0], p[1])
			areBytes(t, b, e, bytesOf(l[p[0]:p[0]+p[1]]), api.OK, "%d, %v", i, p)
		}
	}
}

// P9.2, R1, R2: blocks that there are not, at the limits, beyond them, and at the ends of what an int holds.
func TestNoSuchBlocks(t *testing.T) {
	for i, l := range images() {
		size := len(l)
		numbers := append(slices.Clone(far), size-1, size, size+1, -size, 256-size, math.MaxInt-size, math.MaxInt-size+1, math.MinInt+size)
		for _, lba := range numbers {
			for _, n := range numbers {
				if lba >= 0 && n >= 1 && lba <= size && n <= size && lba+n <= size {
					continue
				}
				got, e := image.Fill(l, lba, n, i%2, 5)
				areCells(t, got, e, l, api.ErrRange, "%d, Fill, lba %d, n %d", i, lba, n)
				b, e := image.Read(l, lba, n)
				areBytes(t, b, e, nil, api.ErrRange, "%d, Read, lba %d, n %d", i, lba, n)
				if n >= 0 && n <= 66 {
					got, e = image.Write(l, lba, 5, mixed(n*block, 1))
					areCells(t, got, e, l, api.ErrRange, "%d, Write, lba %d, n %d", i, lba, n)
				}
			}
		}
	}
}

// P9.2: each number of bytes, right just if it is that of one block at least, and they all are there.
func TestWriteOfNumbersOfBytes(t *testing.T) {
	for _, size := range []int{1, 2, 5} {
		l := some(size, data(9, 3))
		for lba := range size + 1 {
			for n := range (size+2)*block + 2 {
				b := mixed(n, 7)
				want, wantE := l, api.ErrRange
				if n > 0 && n%32 == 0 && lba+n/32 <= size {
					want, wantE = with(l, lba, written(4, b)...), api.OK
				}
				got, e := image.Write(l, lba, 4, b)
				areCells(t, got, e, want, wantE, "%d blocks, lba %d, %d bytes", size, lba, n)
			}
		}
	}
	for _, n := range []int{64*block - 1, 64*block + 1, 65 * block, 256 * block, 257 * block, 65536 * block, 65537 * block} {
		l := some(64, zero(1))
		got, e := image.Write(l, 0, 1, make([]byte, n))
		areCells(t, got, e, l, api.ErrRange, "%d bytes", n)
	}
}

// P9.2: generations at the limits, and beyond them.
func TestGens(t *testing.T) {
	b := mixed(2*block, 3)
	for i, l := range images() {
		if len(l) < 3 {
			continue
		}
		for _, gen := range gens {
			got, e := image.Fill(l, 1, 2, 1, gen)
			areCells(t, got, e, with(l, 1, zero(gen), zero(gen)), api.OK, "%d, Fill, Gen %d", i, gen)
			got, e = image.Write(l, 1, gen, b)
			areCells(t, got, e, with(l, 1, written(gen, b)...), api.OK, "%d, Write, Gen %d", i, gen)
		}
		for _, gen := range noGens {
			for _, kind := range []int{0, 1} {
				got, e := image.Fill(l, 1, 2, kind, gen)
				areCells(t, got, e, l, api.ErrRange, "%d, Fill, Kind %d, Gen %d", i, kind, gen)
			}
			got, e := image.Write(l, 1, gen, b)
			areCells(t, got, e, l, api.ErrRange, "%d, Write, Gen %d", i, gen)
		}
	}
}

// P9.2: blocks are filled with holes and zeros alone.
func TestFillOfOtherKinds(t *testing.T) {
	for i, l := range images() {
		for _, kind := range append(noKinds, 2) {
			for _, p := range [][2]int{{0, 1}, {0, len(l)}, {len(l) - 1, 1}} {
				got, e := image.Fill(l, p[0], p[1], kind, 1)
				areCells(t, got, e, l, api.ErrRange, "%d, %v, Kind %d", i, p, kind)
			}
		}
	}
}

// P9.2, R1, R2: of blocks that may not be there is nothing, whatever else is right or wrong.
func TestNoImages(t *testing.T) {
	for i, l := range noImages() {
		for _, lba := range []int{0, 1, 64, 65, -1, math.MinInt, math.MaxInt} {
			for _, n := range []int{1, 0, 65, -1, math.MinInt, math.MaxInt} {
				b, e := image.Read(l, lba, n)
				areBytes(t, b, e, nil, api.ErrImage, "%d, Read, lba %d, n %d", i, lba, n)
				got, e := image.Fill(l, lba, n, 1, 1)
				areCells(t, got, e, nil, api.ErrImage, "%d, Fill, lba %d, n %d", i, lba, n)
			}
			for _, n := range []int{0, 1, 31, 32, 33, 64, 65 * block} {
				got, e := image.Write(l, lba, 1, make([]byte, n))
				areCells(t, got, e, nil, api.ErrImage, "%d, Write, lba %d, %d bytes", i, lba, n)
			}
		}
		for _, gen := range noGens {
			got, e := image.Fill(l, 0, 1, 0, gen)
			areCells(t, got, e, nil, api.ErrImage, "%d, Fill, Gen %d", i, gen)
			got, e = image.Write(l, 0, gen, make([]byte, block))
			areCells(t, got, e, nil, api.ErrImage, "%d, Write, Gen %d", i, gen)
		}
		for _, kind := range append(noKinds, 2) {
			got, e := image.Fill(l, 0, 1, kind, 1)
			areCells(t, got, e, nil, api.ErrImage, "%d, Fill, Kind %d", i, kind)
		}
	}
}

// P9.3: blocks are alike but for generations; not in another number, with another Kind, or with another byte.
func TestAlike(t *testing.T) {
	for i, l := range images() {
		if !image.Alike(l, l) || !image.Alike(l, slices.Clone(l)) {
			t.Errorf("%d: not as itself", i)
		}
		if image.Alike(l, l[1:]) || image.Alike(l[:len(l)-1], l) || image.Alike(l, append(slices.Clone(l), hole(0))) || image.Alike(nil, l) || image.Alike(l, nil) {
			t.Errorf("%d: as others that are more or fewer", i)
		}
		for at := range l {
			other := slices.Clone(l)
			other[at].Gen ^= 1
			if !image.Alike(l, other) || !image.Alike(other, l) {
				t.Errorf("%d, block %d: not alike for its Gen", i, at)
			}
			for _, kind := range slices.Concat(kinds, noKinds) {
				other[at] = api.Cell{Kind: kind, Gen: l[at].Gen, Data: l[at].Data}
				want := kind == l[at].Kind
				if image.Alike(l, other) != want || image.Alike(other, l) != want {
					t.Errorf("%d, block %d, Kind %d: %v", i, at, kind, !want)
				}
			}
			for _, b := range []int{0, 1, 16, 30, 31} {
				other[at] = l[at]
				other[at].Data[b] ^= 1 << (at % 8)
				if image.Alike(l, other) || image.Alike(other, l) {
					t.Errorf("%d, block %d: alike, though byte %d is another one", i, at, b)
				}
			}
		}
	}
}

// P9.3, R1: blocks that may not be are held against each other as others are.
func TestAlikeOfNoImages(t *testing.T) {
	lists := slices.Concat(noImages(), images())
	if !image.Alike(nil, nil) || !image.Alike(nil, []api.Cell{}) {
		t.Error("none, and none")
	}
	for i, a := range lists {
		for j, b := range lists {
			want := len(a) == len(b)
			for k := 0; want && k < len(a); k++ {
				want = a[k].Kind == b[k].Kind && a[k].Data == b[k].Data
			}
			if got := image.Alike(a, b); got != want {
				t.Errorf("%d, %d: %v", i, j, got)
			}
		}
	}
}

// P9.4: rows of what is done, held against bytes and Kinds that are kept by hand.
func TestWhatWasWrittenIsRead(t *testing.T) {
	for seed := range 60 {
		d := dice(seed)
		size := 1 + d.throw(64)
		l, want := some(size, hole(0)), some(size, hole(0))
		for step := range 40 {
			lba := d.throw(size)
			n := 1 + d.throw(size-lba)
			var e api.Errno
			switch kind := d.throw(3); kind {
			case 2:
				b := mixed(n*block, uint32(seed*100+step))
				l, e = image.Write(l, lba, step, b)
				copy(want[lba:], written(step, b))
				if r, f := image.Read(l, lba, n); f != api.OK || !bytes.Equal(r, b) {
					t.Fatalf("%d, %d: %x, %d; not %x", seed, step, r, f, b)
				}
			default:
				l, e = image.Fill(l, lba, n, kind, step)
				copy(want[lba:], some(n, of(kind, step, 0)))
			}
			areCells(t, l, e, want, api.OK, "%d, %d", seed, step)
			b, e := image.Read(l, 0, size)
			areBytes(t, b, e, bytesOf(want), api.OK, "%d, %d", seed, step)
			goesBack(t, l)
		}
	}
}

// P9.4: what is done with blocks is what is laid over their map.
func TestWhatIsDoneIsLaidOver(t *testing.T) {
	d := dice(23)
	for i, l := range images() {
		size := len(l)
		m, _ := image.Map(l)
		for range 10 {
			lba := d.throw(size)
			n := 1 + d.throw(size-lba)
			x := api.Extent{Lba: lba, Len: n, Kind: d.throw(3), Gen: d.throw(5)}
			var got []api.Cell
			if x.Kind == 2 {
				x.Data = mixed(n*block, uint32(i))
				got, _ = image.Write(l, lba, x.Gen, x.Data)
			} else {
				got, _ = image.Fill(l, lba, n, x.Kind, x.Gen)
			}
			over, _ := extmap.Put(size, m, x)
			have, e := image.Map(got)
			isMap(t, have, e, over, api.OK, "%d, %v", i, briefMap([]api.Extent{x}))
		}
	}
}

// spared are blocks that have spare room, filled so that what is written there shows.
func spared(l []api.Cell) []api.Cell {
	out := append(slices.Clone(l), some(70, data(99, 1))...)
	return out[: len(l) : len(l)+70]
}

// sparedBytes are bytes that have spare room.
func sparedBytes(b []byte) []byte {
	return append(slices.Clone(b), bytes.Repeat([]byte{0xaa}, 100)...)[: len(b) : len(b)+100]
}

// sparedMap is a map that has spare room, as each Data has.
func sparedMap(m []api.Extent) []api.Extent {
	out := make([]api.Extent, len(m), len(m)+5)
	for i, x := range m {
		x.Data = sparedBytes(x.Data)
		out[i] = x
	}
	more := out[len(m):cap(out)]
	for i := range more {
		more[i] = api.Extent{Lba: 40 + i, Len: 1, Kind: 2, Gen: 9, Data: mixed(block, 9)}
	}
	return out
}

// wholeMap is a copy of a map, its spare room, and that of each Data.
func wholeMap(m []api.Extent) []api.Extent {
	m = slices.Clone(m[:cap(m)])
	for i := range m {
		m[i].Data = slices.Clone(m[i].Data[:cap(m[i].Data)])
	}
	return m
}

// whole is a copy of a list and its spare room.
func whole[T any](l []T) []T { return slices.Clone(l[:cap(l)]) }

// fill writes over a list and its spare room.
func fill[T any](l []T, x T) {
	l = l[:cap(l)]
	for i := range l {
		l[i] = x
	}
}

// fillMap writes over a map, its spare room, and that of each Data.
func fillMap(m []api.Extent, c byte) {
	for _, x := range m[:cap(m)] {
		fill(x.Data, c)
	}
	fill(m, api.Extent{Lba: int(c), Len: int(c), Kind: int(c), Gen: int(c), Data: []byte{c}})
}

// told is all that calls answer.
type told struct {
	cells [][]api.Cell
	maps  [][]api.Extent
	bytes [][]byte
}

// answers are those of all calls that answer a list, errors too.
func answers(l []api.Cell, m []api.Extent, b []byte) told {
	var out told
	cells := func(l []api.Cell, _ api.Errno) { out.cells = append(out.cells, l) }
	size := len(l)
	cells(image.Of(size, m))
	cells(image.Of(size+1, m))
	for lba := range size {
		cells(image.Write(l, lba, 5, b))
	}
	cells(image.Write(l, 0, 5, b[1:]))
	cells(image.Write(l, 0, -1, b))
	for _, kind := range []int{0, 1, 2} {
		cells(image.Fill(l, 0, 1, kind, 6))
		cells(image.Fill(l, size-1, 1, kind, 6))
		cells(image.Fill(l, 0, size, kind, 6))
		cells(image.Fill(l, 0, size+1, kind, 6))
	}
	n, _ := image.Map(l)
	out.maps = append(out.maps, n)
	for _, p := range [][2]int{{0, 1}, {0, size}, {size - 1, 1}, {0, size + 1}} {
		r, _ := image.Read(l, p[0], p[1])
		out.bytes = append(out.bytes, r)
	}
	return out
}

// copied is a copy of what was told.
func (a told) copied() told {
	var out told
	for _, l := range a.cells {
		out.cells = append(out.cells, slices.Clone(l))
	}
	for _, m := range a.maps {
		m = slices.Clone(m)
		for i := range m {
			m[i].Data = slices.Clone(m[i].Data)
		}
		out.maps = append(out.maps, m)
	}
	for _, b := range a.bytes {
		out.bytes = append(out.bytes, slices.Clone(b))
	}
	return out
}

// is tells whether one and another were told alike.
func (a told) is(b told) bool {
	return slices.EqualFunc(a.cells, b.cells, slices.Equal) && slices.EqualFunc(a.bytes, b.bytes, bytes.Equal) &&
		slices.EqualFunc(a.maps, b.maps, func(m, n []api.Extent) bool { return slices.EqualFunc(m, n, same) })
}

// forAll does something for each of images, and of some that are none, with their map, or none, and bytes of a block.
func forAll(do func(i int, l []api.Cell, m []api.Extent, b []byte)) {
	lists := images()
	for i, l := range noImages() {
		if len(l) > 0 && i%9 < 3 {
			lists = append(lists, l)
		}
	}
	for i, l := range lists {
		m, _ := image.Map(l)
		do(i, l, m, mixed((1+i%2)*block, uint32(i)))
	}
}

// R4: what is handed in is left as it was, its spare room too.
func TestArgumentsAreLeft(t *testing.T) {
	forAll(func(i int, l []api.Cell, m []api.Extent, b []byte) {
		l, m, b = spared(l), sparedMap(m), sparedBytes(b)
		cells, extents, text := whole(l), wholeMap(m), whole(b)
		answers(l, m, b)
		image.Check(l)
		image.Alike(l, l[1:])
		if !slices.Equal(whole(l), cells) || !slices.EqualFunc(wholeMap(m), extents, same) || !bytes.Equal(whole(b), text) {
			t.Errorf("%d: an argument was changed", i)
		}
	})
}

// R4: answers are in memory of their own: writing over them changes no argument, and the other way round.
func TestAnswersAreNew(t *testing.T) {
	forAll(func(i int, l []api.Cell, m []api.Extent, b []byte) {
		l, m, b = spared(l), sparedMap(m), sparedBytes(b)
		cells, extents, text := whole(l), wholeMap(m), whole(b)
		got := answers(l, m, b)
		before := got.copied()
		for j, a := range got.cells {
			fill(a, api.Cell{Kind: j, Gen: j})
		}
		for j, a := range got.maps {
			fillMap(a, byte(j))
		}
		for j, a := range got.bytes {
			fill(a, byte(j))
		}
		if !slices.Equal(whole(l), cells) || !slices.EqualFunc(wholeMap(m), extents, same) || !bytes.Equal(whole(b), text) {
			t.Errorf("%d: an argument shares an answer's memory", i)
		}
		got = answers(l, m, b)
		fill(l, data(77, 7))
		fillMap(m, 0x55)
		fill(b, 0x66)
		if !got.is(before) {
			t.Errorf("%d: an answer shares an argument's memory", i)
		}
	})
}

// R4: no two lists of an answer share memory, and no two answers.
func TestAnswersShareNothing(t *testing.T) {
	forAll(func(i int, l []api.Cell, m []api.Extent, b []byte) {
		l, m, b = spared(l), sparedMap(m), sparedBytes(b)
		got := answers(l, m, b)
		again := answers(l, m, b)
		before := again.copied()
		texts := got.bytes
		for _, a := range got.maps {
			for _, x := range a {
				texts = append(texts, x.Data)
			}
		}
		for j, x := range texts {
			fill(x, byte(j))
		}
		for j, x := range texts {
			if !bytes.Equal(whole(x), bytes.Repeat([]byte{byte(j)}, cap(x))) {
				t.Errorf("%d: bytes %d share memory with others", i, j)
			}
		}
		for j, a := range got.cells {
			fill(a, api.Cell{Kind: j, Gen: j})
		}
		for j, a := range got.cells {
			if !slices.Equal(whole(a), slices.Repeat([]api.Cell{{Kind: j, Gen: j}}, cap(a))) {
				t.Errorf("%d: blocks %d share memory with others", i, j)
			}
		}
		if !again.is(before) {
			t.Errorf("%d: answers of two calls share memory", i)
		}
	})
}

// R5: an answer hangs neither on a capacity, nor on what was asked ahead.
func TestAnswersHangOnArgumentsAlone(t *testing.T) {
	forAll(func(i int, l []api.Cell, m []api.Extent, b []byte) {
		first := answers(slices.Clip(l), slices.Clip(m), slices.Clip(b))
		if !answers(spared(l), sparedMap(m), sparedBytes(b)).is(first) {
			t.Errorf("%d: other answers with spare room", i)
		}
		if image.Check(l) != image.Check(spared(l)) || !image.Alike(l, spared(l)) {
			t.Errorf("%d: Check or Alike", i)
		}
	})
}
