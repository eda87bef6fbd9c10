package extmap_test

import (
	"bytes"
	"math"
	"slices"
	"testing"

	"waggoner/api"
	"waggoner/extent"
	"waggoner/extmap"
)

// The numbers of the chapters, not api's, so that both are held against each other.
const (
	block  = 32
	blocks = 64
	maxGen = 1<<31 - 1
)

// kinds are all that an extent may be.
var kinds = []int{0, 1, 2}

// noKinds are none; some have the lowest byte of one.
var noKinds = []int{-1, 3, 4, 7, -2, 255, 256, 257, 258, 1<<32 + 1, math.MinInt, math.MinInt + 2, math.MaxInt}

// noBlocks are numbers of blocks that no map has; some have the lowest byte of one, and some go round when they are added.
var noBlocks = []int{0, -1, -2, -8, -63, -64, -65, 65, 66, 127, 128, 255, 256, 257, 264, 320, 1 << 31, 1 << 32, 1<<32 + 8, 1<<32 + 64, -1 << 32, -1<<32 + 8, math.MinInt, math.MinInt + 1, math.MinInt + 8, math.MinInt + 64, math.MaxInt - 63, math.MaxInt - 1, math.MaxInt}

// mixed are n bytes of all kinds, the same ones for the same seed.
func mixed(n int, seed uint32) []byte {
	out := make([]byte, n)
	for i := range out {
		seed = seed*1664525 + 1013904223
		out[i] = byte(seed >> 24)
	}
	return out
}

// dice throws numbers from 0 on that are less than n, the same ones for the same seed.
type dice uint32

func (d *dice) throw(n int) int {
	*d = *d*1664525 + 1013904223
	return int(*d>>8) % n
}

func holes(lba, n, gen int) api.Extent { return api.Extent{Lba: lba, Len: n, Gen: gen} }

func zeros(lba, n, gen int) api.Extent { return api.Extent{Lba: lba, Len: n, Kind: 1, Gen: gen} }

// data are some whose bytes hang on where they are, and on a seed.
func data(lba, n, gen int, seed uint32) api.Extent {
	return api.Extent{Lba: lba, Len: n, Kind: 2, Gen: gen, Data: mixed(n*block, seed+uint32(lba*100+n))}
}

// of is an extent of a Kind, that has as many bytes as it is to have.
func of(lba, n, kind, gen int) api.Extent {
	if kind == 2 {
		return data(lba, n, gen, 1)
	}
	return api.Extent{Lba: lba, Len: n, Kind: kind, Gen: gen}
}

// blocksOf is the part of an extent that is n blocks from lba on, all of which it has.
func blocksOf(x api.Extent, lba, n int) api.Extent {
	if x.Kind == 2 {
		x.Data = x.Data[(lba-x.Lba)*block:][:n*block]
	}
	x.Lba, x.Len = lba, n
	return x
}

// same tells whether two extents are alike.
func same(a, b api.Extent) bool {
	return a.Lba == b.Lba && a.Len == b.Len && a.Kind == b.Kind && a.Gen == b.Gen && bytes.Equal(a.Data, b.Data)
}

// deep is a copy of a list, and of all that is in it.
func deep(l []api.Extent) []api.Extent {
	out := slices.Clone(l)
	for i := range out {
		out[i].Data = slices.Clone(out[i].Data)
	}
	return out
}

// brief tells a list in few words.
func brief(l []api.Extent) [][5]int {
	var out [][5]int
	for _, x := range l {
		out = append(out, [5]int{x.Lba, x.Len, x.Kind, x.Gen, len(x.Data)})
	}
	return out
}

// isList says if a list, or its error, is another one than is wanted.
func isList(t *testing.T, l []api.Extent, e api.Errno, want []api.Extent, wantE api.Errno, what string, numbers ...any) {
	t.Helper()
	if e != wantE || !slices.EqualFunc(l, want, same) {
		t.Errorf(what+": %v, %d; not %v, %d", append(numbers, brief(l), e, brief(want), wantE)...)
	}
}

// cell is what is told of a block.
type cell struct {
	kind, gen int
	data      [block]byte
}

// lay tells of an extent's blocks what it tells.
func lay(cells []cell, x api.Extent) {
	for i := range x.Len {
		c := cell{kind: x.Kind, gen: x.Gen}
		if x.Kind == 2 {
			copy(c.data[:], x.Data[i*block:])
		}
		cells[x.Lba+i] = c
	}
}

// cellsOf are the blocks of a list, one by one.
func cellsOf(n int, l ...api.Extent) []cell {
	cells := make([]cell, n)
	for _, x := range l {
		lay(cells, x)
	}
	return cells
}

// mapOf is the map of blocks, one by one: of those one behind the other that are of one Kind and Gen an extent.
func mapOf(cells []cell) []api.Extent {
	var l []api.Extent
	for lba, c := range cells {
		if lba == 0 || cells[lba-1].kind != c.kind || cells[lba-1].gen != c.gen {
			l = append(l, api.Extent{Lba: lba, Kind: c.kind, Gen: c.gen})
		}
		x := &l[len(l)-1]
		x.Len++
		if c.kind == 2 {
			x.Data = append(x.Data, c.data[:]...)
		}
	}
	return l
}

// isMap is the chapter's word of a map, in its order.
func isMap(n int, l []api.Extent) bool {
	if n < 1 || n > blocks || len(l) == 0 || l[0].Lba != 0 {
		return false
	}
	for _, x := range l {
		if !extent.Check(x) {
			return false
		}
	}
	for i := 1; i < len(l); i++ {
		a, b := l[i-1], l[i]
		if b.Lba != a.Lba+a.Len || a.Kind == b.Kind && a.Gen == b.Gen {
			return false
		}
	}
	last := l[len(l)-1]
	return last.Lba+last.Len == n
}

// plan is a number of blocks, and a list, that may be a map of so many.
type plan struct {
	n int
	l []api.Extent
}

// maps are some: of one block, of all, of one extent, of as many as there may be, of all Kinds, at all edges of Gen.
func maps() []plan {
	out := []plan{
		{8, []api.Extent{holes(0, 2, 0), zeros(2, 3, 1), holes(5, 3, 0)}},
		{8, []api.Extent{holes(0, 4, 1), holes(4, 4, 2)}},
		{8, []api.Extent{data(0, 1, 5, 1), data(1, 6, 4, 2), data(7, 1, 5, 3)}},
		{8, []api.Extent{holes(0, 2, 3), zeros(2, 2, 3), data(4, 2, 3, 1), holes(6, 1, 3), data(7, 1, 3, 2)}},
		{10, []api.Extent{data(0, 3, 0, 1), holes(3, 4, 0), zeros(7, 3, maxGen)}},
		{2, []api.Extent{zeros(0, 1, 0), zeros(1, 1, maxGen)}},
		{64, []api.Extent{holes(0, 20, 0), data(20, 30, 7, 1), zeros(50, 14, 6)}},
		{63, []api.Extent{data(0, 62, maxGen, 1), data(62, 1, maxGen-1, 1)}},
	}
	for _, n := range []int{1, 2, 3, 8, 63, 64} {
		for _, kind := range kinds {
			for _, gen := range []int{0, 1, 258, maxGen} {
				out = append(out, plan{n, []api.Extent{of(0, n, kind, gen)}})
			}
		}
		var gens, turns []api.Extent
		for i := range n {
			gens = append(gens, of(i, 1, 2, i))
			turns = append(turns, of(i, 1, i%3, 4))
		}
		out = append(out, plan{n, gens}, plan{n, turns})
	}
	return out
}

// wrongExtents are some that may not be, for one thing or for several.
func wrongExtents() []api.Extent {
	out := []api.Extent{{}, {Len: -1}, {Len: 1, Data: make([]byte, 1)}, {Len: 1, Data: make([]byte, block)}, {Len: 1, Kind: 1, Data: make([]byte, block)}}
	for _, n := range []int{-1, -2, -64, 64, 65, 256, 1 << 32, math.MinInt, math.MaxInt - 63, math.MaxInt} {
		out = append(out, holes(n, 1, 1), zeros(n, 8, 1), api.Extent{Lba: n, Len: 1, Kind: 2, Gen: 1, Data: make([]byte, block)})
	}
	for _, n := range []int{0, -1, -2, -64, 65, 66, 257, 1<<32 + 1, math.MinInt, math.MinInt + 1, math.MaxInt - 1, math.MaxInt} {
		out = append(out, holes(0, n, 1), zeros(2, n, 1), api.Extent{Len: n, Kind: 2, Gen: 1, Data: make([]byte, block)})
	}
	for _, kind := range noKinds {
		out = append(out, api.Extent{Lba: 1, Len: 1, Kind: kind}, api.Extent{Len: 2, Kind: kind, Data: make([]byte, 2*block)})
	}
	for _, gen := range []int{-1, maxGen + 1, 1<<32 + 1, math.MinInt, math.MaxInt} {
		out = append(out, holes(0, 1, gen), zeros(0, 2, gen), data(1, 1, gen, 1))
	}
	for _, n := range []int{0, 1, block - 1, block, 2*block - 1, 2*block + 1, 3 * block} {
		out = append(out, api.Extent{Lba: 1, Len: 2, Kind: 2, Data: make([]byte, n)})
	}
	return append(out, zeros(1, 64, 1), holes(60, 5, 1), zeros(math.MaxInt, math.MaxInt, 1), holes(math.MinInt, math.MaxInt, 1))
}

// noMaps are some lists that are none of so many blocks.
func noMaps() []plan {
	out := []plan{
		{1, nil}, {8, nil}, {64, nil}, {1, []api.Extent{}}, {64, []api.Extent{}},
		{8, []api.Extent{holes(1, 7, 0)}}, {8, []api.Extent{zeros(1, 3, 1), holes(4, 4, 0)}}, {8, []api.Extent{holes(7, 1, 0)}},
		{8, []api.Extent{holes(0, 4, 0), zeros(5, 3, 1)}}, {8, []api.Extent{holes(0, 2, 0), zeros(2, 2, 1), holes(7, 1, 0)}},
		{8, []api.Extent{holes(0, 4, 0), zeros(3, 5, 1)}}, {8, []api.Extent{holes(0, 8, 0), zeros(2, 3, 1)}}, {8, []api.Extent{holes(0, 8, 0), zeros(7, 1, 1)}},
		{8, []api.Extent{holes(0, 8, 0), zeros(0, 8, 1)}}, {8, []api.Extent{holes(0, 4, 0), zeros(0, 8, 1)}}, {8, []api.Extent{holes(0, 4, 0), zeros(0, 4, 1)}},
		{8, []api.Extent{zeros(4, 4, 1), holes(0, 4, 0)}}, {8, []api.Extent{holes(0, 2, 0), zeros(4, 4, 1), data(2, 2, 1, 1)}},
		{8, []api.Extent{holes(0, 7, 0)}}, {8, []api.Extent{holes(0, 4, 0), zeros(4, 3, 1)}}, {64, []api.Extent{holes(0, 63, 0)}}, {2, []api.Extent{holes(0, 1, 0)}},
		{8, []api.Extent{holes(0, 9, 0)}}, {8, []api.Extent{holes(0, 4, 0), zeros(4, 5, 1)}}, {8, []api.Extent{holes(0, 8, 0), zeros(8, 1, 1)}}, {63, []api.Extent{holes(0, 64, 0)}}, {1, []api.Extent{holes(0, 2, 0)}},
		{8, []api.Extent{holes(0, 4, 0), holes(4, 4, 0)}}, {8, []api.Extent{zeros(0, 4, 3), zeros(4, 4, 3)}}, {8, []api.Extent{data(0, 4, maxGen, 1), data(4, 4, maxGen, 1)}},
		{8, []api.Extent{holes(0, 1, 0), zeros(1, 1, 0), zeros(2, 1, 0), holes(3, 5, 0)}}, {3, []api.Extent{holes(0, 1, 0), zeros(1, 1, 2), zeros(2, 1, 2)}},
		{8, []api.Extent{holes(0, 0, 0), holes(0, 8, 0)}}, {8, []api.Extent{holes(0, 8, 0), holes(8, 0, 0)}}, {8, []api.Extent{holes(0, 4, 0), zeros(4, 0, 1), zeros(4, 4, 2)}},
		{65, []api.Extent{holes(0, 65, 0)}}, {65, []api.Extent{holes(0, 64, 0), zeros(64, 1, 1)}}, {65, []api.Extent{holes(0, 32, 0), zeros(32, 33, 1)}}, {66, []api.Extent{holes(0, 33, 0), zeros(33, 33, 1)}},
		{64, []api.Extent{holes(0, 32, 0), zeros(32, math.MaxInt, 0), zeros(math.MinInt+31, math.MaxInt, 1)}},
	}
	for _, p := range maps() {
		out = append(out, plan{p.n, slices.Concat(p.l, p.l)}, plan{p.n, p.l[1:]}, plan{p.n, p.l[:len(p.l)-1]}, plan{p.n + 1, p.l}, plan{p.n - 1, p.l})
		if len(p.l) > 1 {
			back := slices.Clone(p.l)
			slices.Reverse(back)
			out = append(out, plan{p.n, back})
		}
	}
	for _, x := range wrongExtents() {
		out = append(out, plan{8, []api.Extent{x}}, plan{8, []api.Extent{x, holes(0, 8, 0)}}, plan{8, []api.Extent{holes(0, 8, 0), x}}, plan{x.Len, []api.Extent{x}}, plan{x.Lba + x.Len, []api.Extent{holes(0, x.Lba, 0), x}})
	}
	var all []api.Extent
	for i := range blocks {
		all = append(all, holes(i, 1, i))
	}
	return append(out, plan{64, append(all, holes(64, 1, 64))}, plan{64, slices.Repeat([]api.Extent{holes(0, 64, 0)}, 1000)}, plan{64, slices.Repeat([]api.Extent{holes(0, 1, 0)}, 64)})
}

// wrongFor are extents that are not put onto a map of so many blocks.
func wrongFor(n int) []api.Extent {
	out := wrongExtents()
	for _, kind := range kinds {
		if n == blocks {
			continue
		}
		out = append(out, of(n, 1, kind, 1), of(n-1, 2, kind, 1), of(0, n+1, kind, 1), of(63, 1, kind, 1), of(0, 64, kind, 1))
	}
	return out
}

// P8.1 to P8.3: the numbers of the chapter are api's.
func TestLimits(t *testing.T) {
	if api.Block != block || api.Blocks != blocks || api.MaxGen != maxGen || api.ErrMap != 80 || api.ErrRange != 81 {
		t.Errorf("%d, %d, %d, %d, %d", api.Block, api.Blocks, api.MaxGen, api.ErrMap, api.ErrRange)
	}
	if l := []int{api.EHole, api.EZero, api.EData}; !slices.Equal(l, kinds) {
		t.Errorf("%v", l)
	}
}

// P8.1: a new map is one hole.
func TestNew(t *testing.T) {
	for n := 1; n <= 64; n++ {
		l, e := extmap.New(n)
		isList(t, l, e, []api.Extent{holes(0, n, 0)}, api.OK, "New(%d)", n)
		if !extmap.Check(n, l) {
			t.Errorf("New(%d) is no map", n)
		}
	}
}

// P8.1, R1, R2: no map has so many blocks.
func TestNewOfNoBlocks(t *testing.T) {
	for _, n := range noBlocks {
		l, e := extmap.New(n)
		isList(t, l, e, nil, api.ErrRange, "New(%d)", n)
	}
}

// P8.1: maps of all Kinds and sizes, and of one number of blocks alone.
func TestCheckOfMaps(t *testing.T) {
	for i, p := range maps() {
		for _, n := range append(noBlocks, p.n-1, p.n, p.n+1) {
			if got := extmap.Check(n, p.l); got != (n == p.n) {
				t.Errorf("%d: Check(%d, %v): %v", i, n, brief(p.l), got)
			}
		}
	}
}

// P8.1: two that do not join, for their Kind or their generation alone.
func TestCheckOfExtentsThatDoNotJoin(t *testing.T) {
	for _, a := range kinds {
		for _, b := range kinds {
			for _, gens := range [][2]int{{0, 0}, {0, 1}, {1, 0}, {7, 7}, {7, 263}, {maxGen, maxGen}, {maxGen - 1, maxGen}, {0, maxGen}} {
				l := []api.Extent{of(0, 3, a, gens[0]), of(3, 5, b, gens[1])}
				if got, want := extmap.Check(8, l), a != b || gens[0] != gens[1]; got != want {
					t.Errorf("Kinds %d %d, Gens %v: %v", a, b, gens, got)
				}
			}
		}
	}
}

// P8.1, R1: lists that are no maps, one thing or several being wrong.
func TestCheckOfNoMaps(t *testing.T) {
	for i, p := range noMaps() {
		if extmap.Check(p.n, p.l) {
			t.Errorf("%d: Check(%d, %v)", i, p.n, brief(p.l))
		}
	}
}

// P8.1, R1: no number of blocks that may not be has a map, whatever the list.
func TestCheckOfNoBlocks(t *testing.T) {
	lists := [][]api.Extent{nil, {}, {{}}}
	for _, n := range noBlocks {
		lists = append(lists, []api.Extent{holes(0, n, 0)}, []api.Extent{holes(n, 0, 0)}, []api.Extent{holes(0, 1, 0), holes(1, n-1, 1)}, []api.Extent{holes(0, 64, 0), zeros(64, n-64, 1)})
	}
	for _, p := range maps() {
		lists = append(lists, p.l)
	}
	for _, n := range noBlocks {
		for i, l := range lists {
			if extmap.Check(n, l) {
				t.Errorf("%d: Check(%d, %v)", i, n, brief(l))
			}
		}
	}
}

// P8.1: all lists of up to three extents of few blocks, against the word's own order.
func TestCheckOfAllSmallLists(t *testing.T) {
	var ones []api.Extent
	for lba := -1; lba < 4; lba++ {
		for n := range 4 {
			ones = append(ones, holes(lba, n, 0), holes(lba, n, 1), zeros(lba, n, 0))
		}
	}
	look := func(l ...api.Extent) {
		for n := range 5 {
			if got := extmap.Check(n, l); got != isMap(n, l) {
				t.Errorf("Check(%d, %v): %v", n, brief(l), got)
			}
		}
	}
	for _, a := range ones {
		look(a)
		for _, b := range ones {
			look(a, b)
			for _, c := range ones {
				look(a, b, c)
			}
		}
	}
}

// The chapter's example.
func TestExample(t *testing.T) {
	l, _ := extmap.New(8)
	m, e := extmap.Put(8, l, zeros(2, 3, 1))
	isList(t, m, e, []api.Extent{holes(0, 2, 0), zeros(2, 3, 1), holes(5, 3, 0)}, api.OK, "Put")
}

// P8.2: over the whole, the beginning, the middle, the end, over several, and over parts of them.
func TestPutAtEachPlace(t *testing.T) {
	d := data(3, 4, 5, 1)
	m := []api.Extent{holes(0, 3, 0), d, zeros(7, 3, 2)}
	for i, c := range []struct{ x, ahead, behind []api.Extent }{
		{[]api.Extent{zeros(0, 10, 9)}, nil, nil},
		{[]api.Extent{data(0, 10, 9, 2)}, nil, nil},
		{[]api.Extent{holes(0, 10, 0)}, nil, nil},
		{[]api.Extent{zeros(0, 1, 9)}, nil, []api.Extent{holes(1, 2, 0), d, m[2]}},
		{[]api.Extent{zeros(1, 1, 9)}, []api.Extent{holes(0, 1, 0)}, []api.Extent{holes(2, 1, 0), d, m[2]}},
		{[]api.Extent{zeros(2, 1, 9)}, []api.Extent{holes(0, 2, 0)}, []api.Extent{d, m[2]}},
		{[]api.Extent{zeros(0, 3, 9)}, nil, []api.Extent{d, m[2]}},
		{[]api.Extent{zeros(3, 4, 9)}, []api.Extent{m[0]}, []api.Extent{m[2]}},
		{[]api.Extent{zeros(3, 1, 9)}, []api.Extent{m[0]}, []api.Extent{blocksOf(d, 4, 3), m[2]}},
		{[]api.Extent{zeros(4, 1, 9)}, []api.Extent{m[0], blocksOf(d, 3, 1)}, []api.Extent{blocksOf(d, 5, 2), m[2]}},
		{[]api.Extent{holes(4, 2, 5)}, []api.Extent{m[0], blocksOf(d, 3, 1)}, []api.Extent{blocksOf(d, 6, 1), m[2]}},
		{[]api.Extent{zeros(6, 1, 9)}, []api.Extent{m[0], blocksOf(d, 3, 3)}, []api.Extent{m[2]}},
		{[]api.Extent{zeros(7, 3, 9)}, []api.Extent{m[0], d}, nil},
		{[]api.Extent{zeros(7, 1, 9)}, []api.Extent{m[0], d}, []api.Extent{zeros(8, 2, 2)}},
		{[]api.Extent{zeros(9, 1, 9)}, []api.Extent{m[0], d, zeros(7, 2, 2)}, nil},
		{[]api.Extent{data(2, 3, 9, 2)}, []api.Extent{holes(0, 2, 0)}, []api.Extent{blocksOf(d, 5, 2), m[2]}},
		{[]api.Extent{data(6, 2, 9, 2)}, []api.Extent{m[0], blocksOf(d, 3, 3)}, []api.Extent{zeros(8, 2, 2)}},
		{[]api.Extent{holes(1, 8, 9)}, []api.Extent{holes(0, 1, 0)}, []api.Extent{zeros(9, 1, 2)}},
		{[]api.Extent{zeros(0, 9, 9)}, nil, []api.Extent{zeros(9, 1, 2)}},
		{[]api.Extent{zeros(1, 9, 9)}, []api.Extent{holes(0, 1, 0)}, nil},
		{[]api.Extent{data(3, 7, maxGen, 2)}, []api.Extent{m[0]}, nil},
		{[]api.Extent{holes(0, 7, 1)}, nil, []api.Extent{m[2]}},
	} {
		got, e := extmap.Put(10, m, c.x[0])
		isList(t, got, e, slices.Concat(c.ahead, c.x, c.behind), api.OK, "%d", i)
	}
}

// P8.2: what joins the ones ahead and behind it, or one of them, or is as what is there.
func TestPutJoins(t *testing.T) {
	m := []api.Extent{holes(0, 2, 0), zeros(2, 2, 1), holes(4, 2, 0), zeros(6, 2, 1), zeros(8, 2, 2)}
	for i, c := range []struct {
		x    api.Extent
		want []api.Extent
	}{
		{zeros(4, 2, 1), []api.Extent{m[0], zeros(2, 6, 1), m[4]}},
		{zeros(4, 1, 1), []api.Extent{m[0], zeros(2, 3, 1), holes(5, 1, 0), m[3], m[4]}},
		{zeros(5, 1, 1), []api.Extent{m[0], m[1], holes(4, 1, 0), zeros(5, 3, 1), m[4]}},
		{zeros(4, 2, 2), []api.Extent{m[0], m[1], zeros(4, 2, 2), m[3], m[4]}},
		{zeros(6, 2, 2), []api.Extent{m[0], m[1], m[2], zeros(6, 4, 2)}},
		{zeros(4, 4, 2), []api.Extent{m[0], m[1], zeros(4, 6, 2)}},
		{zeros(8, 2, 1), []api.Extent{m[0], m[1], m[2], zeros(6, 4, 1)}},
		{zeros(9, 1, 1), []api.Extent{m[0], m[1], m[2], m[3], zeros(8, 1, 2), zeros(9, 1, 1)}},
		{holes(2, 2, 0), []api.Extent{holes(0, 6, 0), m[3], m[4]}},
		{holes(1, 4, 0), []api.Extent{holes(0, 6, 0), m[3], m[4]}},
		{holes(2, 2, 1), []api.Extent{m[0], holes(2, 2, 1), m[2], m[3], m[4]}},
		{holes(0, 1, 0), m},
		{holes(1, 1, 0), m},
		{zeros(2, 2, 1), m},
		{zeros(3, 1, 1), m},
		{zeros(8, 2, 2), m},
		{zeros(0, 2, 1), []api.Extent{zeros(0, 4, 1), m[2], m[3], m[4]}},
		{zeros(3, 4, 1), []api.Extent{m[0], zeros(2, 6, 1), m[4]}},
		{holes(0, 10, 0), []api.Extent{holes(0, 10, 0)}},
	} {
		got, e := extmap.Put(10, m, c.x)
		isList(t, got, e, c.want, api.OK, "%d", i)
	}
}

// P8.2: the bytes of data over data, of one generation and of others.
func TestPutOfDataOverData(t *testing.T) {
	for _, gen := range []int{4, 5, 6} {
		for lba := range 8 {
			for n := 1; n <= 8-lba; n++ {
				d, x := data(0, 8, 5, 1), data(lba, n, gen, 2)
				want := []api.Extent{x}
				if lba > 0 {
					want = slices.Concat([]api.Extent{blocksOf(d, 0, lba)}, want)
				}
				if end := lba + n; end < 8 {
					want = append(want, blocksOf(d, end, 8-end))
				}
				if gen == 5 {
					all := slices.Clone(d.Data)
					copy(all[lba*block:], x.Data)
					want = []api.Extent{{Len: 8, Kind: 2, Gen: 5, Data: all}}
				}
				got, e := extmap.Put(8, []api.Extent{d}, x)
				isList(t, got, e, want, api.OK, "Gen %d, Lba %d, Len %d", gen, lba, n)
			}
		}
	}
}

// P8.2: what ends at blocks, and one beyond it, of all numbers of blocks.
func TestPutAtTheEnd(t *testing.T) {
	for n := 1; n <= blocks; n++ {
		m := []api.Extent{of(0, n, 0, 3)}
		for lba := range n {
			for _, kind := range kinds {
				x := of(lba, n-lba, kind, 4)
				want := []api.Extent{x}
				if lba > 0 {
					want = []api.Extent{holes(0, lba, 3), x}
				}
				got, e := extmap.Put(n, m, x)
				isList(t, got, e, want, api.OK, "%d blocks, Lba %d, Kind %d", n, lba, kind)
				got, e = extmap.Put(n, m, of(lba, n-lba+1, kind, 4))
				isList(t, got, e, m, api.ErrRange, "one beyond %d blocks, Lba %d, Kind %d", n, lba, kind)
			}
		}
		got, e := extmap.Put(n, m, zeros(n, 1, 4))
		isList(t, got, e, m, api.ErrRange, "behind %d blocks", n)
	}
}

// P8.2, R1, R2: an extent that may not be, or ends beyond blocks: the map as it was.
func TestPutOfWrongExtents(t *testing.T) {
	for i, p := range maps() {
		for j, x := range wrongFor(p.n) {
			got, e := extmap.Put(p.n, p.l, x)
			isList(t, got, e, p.l, api.ErrRange, "%d, %d", i, j)
		}
	}
}

// P8.2, R1, R2: onto a list that is no map nothing is put, also what may not be.
func TestPutOntoNoMap(t *testing.T) {
	extents := append(wrongExtents(), holes(0, 1, 0), zeros(0, 8, 1), data(2, 3, 1, 1), data(0, 64, 1, 1))
	for i, p := range noMaps() {
		for j, x := range extents {
			got, e := extmap.Put(p.n, p.l, x)
			isList(t, got, e, nil, api.ErrMap, "%d, %d", i, j)
		}
	}
	for _, n := range noBlocks {
		for i, p := range maps() {
			got, e := extmap.Put(n, p.l, zeros(0, 1, 1))
			isList(t, got, e, nil, api.ErrMap, "%d of %d blocks", i, n)
		}
	}
}

// smallMaps are all maps of n blocks, of each Kind and two generations.
func smallMaps(n int) [][]cell {
	if n == 0 {
		return [][]cell{nil}
	}
	var out [][]cell
	for _, ahead := range smallMaps(n - 1) {
		for _, kind := range kinds {
			for gen := range 2 {
				c := cell{kind: kind, gen: gen}
				if kind == 2 {
					copy(c.data[:], mixed(block, uint32(n*2+gen)))
				}
				out = append(out, append(slices.Clone(ahead), c))
			}
		}
	}
	return out
}

// smallExtents are all extents of n blocks, of each Kind and two generations.
func smallExtents(n int) []api.Extent {
	var out []api.Extent
	for lba := range n {
		for size := 1; size <= n-lba; size++ {
			for gen := range 2 {
				out = append(out, holes(lba, size, gen), zeros(lba, size, gen), data(lba, size, gen, 77))
			}
		}
	}
	return out
}

// P8.2, P8.4: each extent onto each map of few blocks, block by block.
func TestPutOfAllSmallMaps(t *testing.T) {
	for n := 1; n <= 4; n++ {
		extents := smallExtents(n)
		for _, cells := range smallMaps(n) {
			m := mapOf(cells)
			for _, x := range extents {
				want := slices.Clone(cells)
				lay(want, x)
				got, e := extmap.Put(n, m, x)
				isList(t, got, e, mapOf(want), api.OK, "%v onto %v", brief([]api.Extent{x}), brief(m))
				if !extmap.Check(n, got) {
					t.Errorf("%v onto %v is no map", brief([]api.Extent{x}), brief(m))
				}
			}
		}
	}
}

// thrown is an extent of n blocks, of few generations, so that some join.
func thrown(d *dice, n int) api.Extent {
	lba := d.throw(n)
	size := 1 + d.throw(n-lba)
	if d.throw(2) == 0 {
		size = min(size, 1+d.throw(4))
	}
	x := api.Extent{Lba: lba, Len: size, Kind: d.throw(3), Gen: d.throw(3)}
	if x.Kind == 2 {
		x.Data = mixed(size*block, uint32(*d))
	}
	return x
}

// P8.2, P8.4: a map is one behind each Put of long rows, and is block by block what they tell.
func TestPutInLongRows(t *testing.T) {
	d := dice(8)
	for _, n := range []int{1, 2, 3, 5, 8, 13, 31, 32, 33, 63, 64} {
		m, _ := extmap.New(n)
		cells := make([]cell, n)
		var row []api.Extent
		for i := range 400 {
			x := thrown(&d, n)
			row = append(row, x)
			lay(cells, x)
			var e api.Errno
			m, e = extmap.Put(n, m, x)
			isList(t, m, e, mapOf(cells), api.OK, "%d blocks, Put %d", n, i)
			if !extmap.Check(n, m) {
				t.Fatalf("%d blocks, Put %d: no map", n, i)
			}
		}
		l, _ := extmap.New(n)
		got, e := extmap.Lay(n, l, row...)
		isList(t, got, e, m, api.OK, "%d blocks, all at once", n)
	}
}

// P8.2: of none the map is as it was.
func TestLayOfNone(t *testing.T) {
	for i, p := range maps() {
		got, e := extmap.Lay(p.n, p.l)
		isList(t, got, e, p.l, api.OK, "%d", i)
		got, e = extmap.Lay(p.n, p.l, []api.Extent{}...)
		isList(t, got, e, p.l, api.OK, "%d, a list of none", i)
	}
}

// P8.2: Lay of some is Put of each, in their order.
func TestLayOfSome(t *testing.T) {
	m := []api.Extent{holes(0, 8, 0)}
	for i, c := range []struct{ over, want []api.Extent }{
		{[]api.Extent{zeros(2, 3, 1)}, []api.Extent{holes(0, 2, 0), zeros(2, 3, 1), holes(5, 3, 0)}},
		{[]api.Extent{zeros(2, 3, 1), zeros(5, 3, 1)}, []api.Extent{holes(0, 2, 0), zeros(2, 6, 1)}},
		{[]api.Extent{zeros(5, 3, 1), zeros(2, 3, 1)}, []api.Extent{holes(0, 2, 0), zeros(2, 6, 1)}},
		{[]api.Extent{zeros(2, 3, 1), holes(4, 4, 2)}, []api.Extent{holes(0, 2, 0), zeros(2, 2, 1), holes(4, 4, 2)}},
		{[]api.Extent{holes(4, 4, 2), zeros(2, 3, 1)}, []api.Extent{holes(0, 2, 0), zeros(2, 3, 1), holes(5, 3, 2)}},
		{[]api.Extent{zeros(2, 3, 1), zeros(2, 3, 1)}, []api.Extent{holes(0, 2, 0), zeros(2, 3, 1), holes(5, 3, 0)}},
		{[]api.Extent{zeros(0, 8, 1), data(3, 2, 2, 1), holes(0, 8, 0)}, m},
		{[]api.Extent{data(0, 8, 2, 1), zeros(0, 4, 2), zeros(4, 4, 2)}, []api.Extent{zeros(0, 8, 2)}},
		{[]api.Extent{data(0, 3, 2, 1), data(3, 5, 2, 2)}, []api.Extent{{Len: 8, Kind: 2, Gen: 2, Data: slices.Concat(data(0, 3, 2, 1).Data, data(3, 5, 2, 2).Data)}}},
	} {
		got, e := extmap.Lay(8, m, c.over...)
		isList(t, got, e, c.want, api.OK, "%d", i)
	}
}

// P8.2: Lay of each two and three small extents, block by block.
func TestLayOfAllSmallExtents(t *testing.T) {
	l := []api.Extent{data(0, 1, 1, 5), zeros(1, 1, 0), holes(2, 1, 1)}
	extents := smallExtents(3)
	for _, a := range extents {
		for _, b := range extents {
			got, e := extmap.Lay(3, l, a, b)
			isList(t, got, e, mapOf(cellsOf(3, append(slices.Clone(l), a, b)...)), api.OK, "%v", brief([]api.Extent{a, b}))
			for _, c := range extents {
				got, e := extmap.Lay(3, l, a, b, c)
				isList(t, got, e, mapOf(cellsOf(3, append(slices.Clone(l), a, b, c)...)), api.OK, "%v", brief([]api.Extent{a, b, c}))
			}
		}
	}
}

// P8.2, R1, R2, R3: where one of them may not be, the map is as it was, whatever comes ahead of it and behind it.
func TestLayOfWrongExtents(t *testing.T) {
	for i, p := range maps() {
		right := []api.Extent{zeros(0, 1, 9), holes(0, p.n, 8), data(p.n-1, 1, 7, 3), zeros(p.n/2, 1, 6)}
		for j, x := range wrongFor(p.n) {
			if i > 12 && j%7 != i%7 {
				continue
			}
			for at := range len(right) + 1 {
				got, e := extmap.Lay(p.n, p.l, slices.Insert(slices.Clone(right), at, x)...)
				isList(t, got, e, p.l, api.ErrRange, "%d, %d at %d", i, j, at)
			}
			got, e := extmap.Lay(p.n, p.l, x, x)
			isList(t, got, e, p.l, api.ErrRange, "%d, %d twice", i, j)
		}
	}
}

// P8.2, R1, R2: onto a list that is no map nothing is laid, also none, and what may not be.
func TestLayOntoNoMap(t *testing.T) {
	for i, p := range noMaps() {
		for j, over := range [][]api.Extent{nil, {}, {zeros(0, 1, 1)}, {holes(0, 8, 0)}, {data(0, 64, 1, 1)}, {{}}, {zeros(0, 1, 1), holes(-1, 2, 0)}, {holes(0, 65, 0), zeros(0, 1, 1)}} {
			got, e := extmap.Lay(p.n, p.l, over...)
			isList(t, got, e, nil, api.ErrMap, "%d, %d", i, j)
		}
	}
	for _, n := range noBlocks {
		got, e := extmap.Lay(n, []api.Extent{holes(0, 8, 0)})
		isList(t, got, e, nil, api.ErrMap, "%d blocks", n)
	}
}

// P8.3: within one extent, over several, and over all.
func TestRange(t *testing.T) {
	d := data(2, 3, 4, 1)
	m := []api.Extent{holes(0, 2, 0), d, zeros(5, 3, 2)}
	for i, c := range []struct {
		lba, n int
		want   []api.Extent
	}{
		{0, 8, m},
		{0, 1, []api.Extent{holes(0, 1, 0)}},
		{1, 1, []api.Extent{holes(1, 1, 0)}},
		{0, 2, []api.Extent{m[0]}},
		{2, 3, []api.Extent{d}},
		{3, 1, []api.Extent{blocksOf(d, 3, 1)}},
		{3, 2, []api.Extent{blocksOf(d, 3, 2)}},
		{1, 2, []api.Extent{holes(1, 1, 0), blocksOf(d, 2, 1)}},
		{1, 5, []api.Extent{holes(1, 1, 0), d, zeros(5, 1, 2)}},
		{4, 2, []api.Extent{blocksOf(d, 4, 1), zeros(5, 1, 2)}},
		{6, 1, []api.Extent{zeros(6, 1, 2)}},
		{7, 1, []api.Extent{zeros(7, 1, 2)}},
		{1, 7, []api.Extent{holes(1, 1, 0), d, m[2]}},
	} {
		got, e := extmap.Range(8, m, c.lba, c.n)
		isList(t, got, e, c.want, api.OK, "%d", i)
	}
}

// P8.3, P8.4: each part of each map, block by block; laid over the map, it leaves it as it was.
func TestRangeOfAllParts(t *testing.T) {
	for i, p := range maps() {
		cells := cellsOf(p.n, p.l...)
		for lba := range p.n {
			for n := 1; n <= p.n-lba; n++ {
				want := mapOf(cells[lba : lba+n])
				for j := range want {
					want[j].Lba += lba
				}
				got, e := extmap.Range(p.n, p.l, lba, n)
				isList(t, got, e, want, api.OK, "%d, lba %d, n %d", i, lba, n)
				if n > 9 && n < p.n-lba {
					continue
				}
				again, e := extmap.Lay(p.n, p.l, got...)
				isList(t, again, e, p.l, api.OK, "%d, lba %d, n %d, laid over", i, lba, n)
			}
		}
	}
}

// P8.3, R1, R2: blocks that there are not, at the limits, beyond them, and at the ends of what an int holds.
func TestRangeOfWrongNumbers(t *testing.T) {
	far := slices.Concat(noBlocks, []int{1, 2, 7, 8, 9, 10, 63, 64, math.MaxInt - 7, math.MaxInt - 8, math.MinInt + 7, math.MinInt + 9})
	for i, p := range maps() {
		numbers := append(slices.Clone(far), p.n-1, p.n, p.n+1, -p.n, 256-p.n, math.MaxInt-p.n, math.MaxInt-p.n+1, math.MinInt+p.n)
		for _, lba := range numbers {
			for _, n := range numbers {
				if lba >= 0 && n >= 1 && lba <= p.n && n <= p.n && lba+n <= p.n {
					continue
				}
				got, e := extmap.Range(p.n, p.l, lba, n)
				isList(t, got, e, nil, api.ErrRange, "%d, lba %d, n %d", i, lba, n)
			}
		}
	}
}

// P8.3, R2: of a list that is no map there are no parts, whatever the numbers.
func TestRangeOfNoMap(t *testing.T) {
	for i, p := range noMaps() {
		for _, c := range [][2]int{{0, 1}, {0, 8}, {3, 2}, {0, 0}, {-1, 1}, {0, 65}, {64, 1}, {math.MinInt, math.MaxInt}, {math.MaxInt, math.MaxInt}} {
			got, e := extmap.Range(p.n, p.l, c[0], c[1])
			isList(t, got, e, nil, api.ErrMap, "%d, %v", i, c)
		}
	}
	for _, n := range noBlocks {
		got, e := extmap.Range(n, []api.Extent{holes(0, 8, 0)}, 0, 1)
		isList(t, got, e, nil, api.ErrMap, "%d blocks", n)
	}
}

// P8.3: generations below, at and above those of maps.
func TestSince(t *testing.T) {
	for i, p := range maps() {
		gens := []int{-1, 0, 1, 2, 3, maxGen - 1, maxGen, maxGen + 1, 1 << 32, -1 << 32, math.MinInt, math.MinInt + 1, math.MaxInt}
		for _, x := range p.l {
			gens = append(gens, x.Gen-1, x.Gen, x.Gen+1)
		}
		for _, gen := range gens {
			var want []api.Extent
			for _, x := range p.l {
				if x.Gen > gen {
					want = append(want, x)
				}
			}
			got, e := extmap.Since(p.n, p.l, gen)
			isList(t, got, e, want, api.OK, "%d, Gen %d", i, gen)
		}
	}
}

// P8.3: what is not above a generation is left out, at the beginning, between, and at the end.
func TestSinceLeavesOut(t *testing.T) {
	d := data(4, 1, 3, 1)
	m := []api.Extent{holes(0, 2, 0), zeros(2, 2, 2), d, holes(5, 1, 4), zeros(6, 2, 3)}
	for gen, want := range map[int][]api.Extent{-1: m, 0: m[1:], 1: m[1:], 2: m[2:], 3: {m[3]}, 4: nil, 5: nil} {
		got, e := extmap.Since(8, m, gen)
		isList(t, got, e, want, api.OK, "Gen %d", gen)
	}
	m = []api.Extent{zeros(0, 1, 5), holes(1, 1, 1), zeros(2, 1, 5)}
	got, e := extmap.Since(3, m, 1)
	isList(t, got, e, []api.Extent{m[0], m[2]}, api.OK, "between")
}

// P8.3, R2: of a list that is no map none are above a generation.
func TestSinceOfNoMap(t *testing.T) {
	for i, p := range noMaps() {
		for _, gen := range []int{-1, 0, 1, maxGen, math.MinInt, math.MaxInt} {
			got, e := extmap.Since(p.n, p.l, gen)
			isList(t, got, e, nil, api.ErrMap, "%d, Gen %d", i, gen)
		}
	}
	for _, n := range noBlocks {
		got, e := extmap.Since(n, []api.Extent{holes(0, 8, 5)}, 0)
		isList(t, got, e, nil, api.ErrMap, "%d blocks", n)
	}
}

// P8.3: how many are of each Kind, and none of others, of maps and of any lists.
func TestMany(t *testing.T) {
	wrong := wrongExtents()
	for i, c := range []struct {
		l    []api.Extent
		want [3]int
	}{
		{nil, [3]int{}},
		{[]api.Extent{}, [3]int{}},
		{[]api.Extent{holes(0, 8, 0)}, [3]int{8, 0, 0}},
		{[]api.Extent{zeros(5, 3, 1)}, [3]int{0, 3, 0}},
		{[]api.Extent{data(0, 64, maxGen, 1)}, [3]int{0, 0, 64}},
		{[]api.Extent{holes(0, 2, 0), zeros(2, 3, 1), holes(5, 3, 2)}, [3]int{5, 3, 0}},
		{[]api.Extent{data(0, 4, 1, 1), data(4, 2, 2, 1), zeros(6, 1, 2), holes(7, 1, 9)}, [3]int{1, 1, 6}},
		{[]api.Extent{zeros(7, 1, 0), zeros(7, 1, 0), holes(5, 3, 0), zeros(6, 2, 0)}, [3]int{3, 4, 0}},
		{slices.Repeat([]api.Extent{data(0, 64, 1, 1)}, 1000), [3]int{0, 0, 64000}},
		{slices.Repeat([]api.Extent{holes(63, 1, 1), zeros(0, 63, 0)}, 300), [3]int{300, 18900, 0}},
		{wrong, [3]int{}},
		{slices.Concat(wrong, []api.Extent{data(3, 4, 5, 1)}, wrong, []api.Extent{holes(0, 1, 0), zeros(1, 2, 0)}), [3]int{1, 2, 4}},
		{[]api.Extent{holes(0, 4, 0), zeros(60, 5, 0), zeros(3, 2, -1), data(0, 1, maxGen+1, 1), holes(2, 1, 3)}, [3]int{5, 0, 0}},
	} {
		for _, kind := range kinds {
			if got := extmap.Many(c.l, kind); got != c.want[kind] {
				t.Errorf("%d: Kind %d: %d, not %d", i, kind, got, c.want[kind])
			}
		}
		for _, kind := range noKinds {
			if got := extmap.Many(c.l, kind); got != 0 {
				t.Errorf("%d: Kind %d: %d", i, kind, got)
			}
		}
	}
}

// P8.3, R1: each extent that may not be counts for nothing, of its own Kind too.
func TestManyOfWrongExtents(t *testing.T) {
	for i, x := range wrongExtents() {
		for _, kind := range append(slices.Clone(kinds), x.Kind) {
			if got := extmap.Many([]api.Extent{x}, kind); got != 0 {
				t.Errorf("%d: Kind %d: %d", i, kind, got)
			}
		}
	}
}

// P8.3, P8.4: the blocks of a map are as many as those of all Kinds.
func TestManyOfMaps(t *testing.T) {
	for i, p := range maps() {
		var want [3]int
		for _, c := range cellsOf(p.n, p.l...) {
			want[c.kind]++
		}
		if got := [3]int{extmap.Many(p.l, 0), extmap.Many(p.l, 1), extmap.Many(p.l, 2)}; got != want {
			t.Errorf("%d: %v, not %v", i, got, want)
		}
	}
}

// orders are all orders of a list.
func orders(l []api.Extent) [][]api.Extent {
	if len(l) == 0 {
		return [][]api.Extent{nil}
	}
	var out [][]api.Extent
	for i := range l {
		for _, rest := range orders(slices.Delete(slices.Clone(l), i, i+1)) {
			out = append(out, append([]api.Extent{l[i]}, rest...))
		}
	}
	return out
}

// P8.4: a map laid anew by its own extents, in whatever order.
func TestMapsAreLaidAnew(t *testing.T) {
	d := dice(5)
	for i, p := range maps() {
		rows := [][]api.Extent{p.l}
		if len(p.l) <= 5 {
			rows = orders(p.l)
		}
		for range 20 {
			row := slices.Clone(p.l)
			for j := range row {
				k := d.throw(j + 1)
				row[j], row[k] = row[k], row[j]
			}
			rows = append(rows, row)
		}
		ground := [][]api.Extent{{holes(0, p.n, 0)}, {data(0, p.n, 77, 9)}, p.l}
		for j, row := range rows {
			got, e := extmap.Lay(p.n, ground[j%3], row...)
			isList(t, got, e, p.l, api.OK, "%d, order %d", i, j)
		}
	}
}

// P8.4: what lies over another one hides it.
func TestWhatLiesOverHides(t *testing.T) {
	l := []api.Extent{data(0, 3, 1, 5), zeros(3, 1, 0), holes(4, 1, 1)}
	extents := smallExtents(5)
	for _, x := range extents {
		for _, y := range extents {
			if y.Lba > x.Lba || y.Lba+y.Len < x.Lba+x.Len {
				continue
			}
			both, e := extmap.Lay(5, l, x, y)
			alone, f := extmap.Put(5, l, y)
			isList(t, both, e, alone, f, "%v", brief([]api.Extent{x, y}))
		}
	}
}

// spared is a list that has spare room, as each Data has, filled so that what is written there shows.
func spared(l []api.Extent) []api.Extent {
	out := make([]api.Extent, len(l), len(l)+5)
	for i, x := range l {
		x.Data = append(slices.Clone(x.Data), bytes.Repeat([]byte{0xaa}, 64)...)[:len(x.Data)]
		out[i] = x
	}
	more := out[len(l):cap(out)]
	for i := range more {
		more[i] = data(40+i, 2, 9, 99)
	}
	return out
}

// whole is a copy of a list, its spare room, and that of each Data.
func whole(l []api.Extent) []api.Extent {
	l = slices.Clone(l[:cap(l)])
	for i := range l {
		l[i].Data = slices.Clone(l[i].Data[:cap(l[i].Data)])
	}
	return l
}

// fill writes over a list, its spare room, and that of each Data.
func fill(l []api.Extent, c byte) {
	l = l[:cap(l)]
	for i := range l {
		b := l[i].Data[:cap(l[i].Data)]
		for j := range b {
			b[j] = c
		}
		l[i] = api.Extent{Lba: int(c), Len: int(c), Kind: int(c), Gen: int(c), Data: []byte{c}}
	}
}

// answers are those of all calls that answer a list, of a map and some to be laid over it, errors too.
func answers(n int, l, over []api.Extent) [][]api.Extent {
	var out [][]api.Extent
	add := func(l []api.Extent, _ api.Errno) { out = append(out, l) }
	for _, x := range over {
		add(extmap.Put(n, l, x))
	}
	add(extmap.Lay(n, l))
	add(extmap.Lay(n, l, over...))
	add(extmap.Lay(n, l, over[:1]...))
	add(extmap.Range(n, l, 0, n))
	add(extmap.Range(n, l, n/2, 1))
	add(extmap.Range(n, l, 0, n+1))
	add(extmap.Since(n, l, -1))
	add(extmap.Since(n, l, 3))
	add(extmap.Since(n-1, l, 3))
	return out
}

// overs are lists to be laid over a map of n blocks: some that may be, and some with one that may not.
func overs(n int) [][]api.Extent {
	right := []api.Extent{data(0, n, 4, 7), holes(n-1, 1, 4), data(n/2, 1, 6, 8), zeros(0, 1, 4), data(n-1, 1, 4, 9)}
	return [][]api.Extent{right, append(slices.Clone(right), holes(n, 1, 0)), {data(n-1, 2, 4, 7)}, {data(n-1, 1, 5, 7), data(n-1, 1, 3, 7)}}
}

// R4: what is handed in is left as it was, its spare room too.
func TestArgumentsAreLeft(t *testing.T) {
	lists := maps()
	for i, p := range noMaps() {
		if i < 60 {
			lists = append(lists, p)
		}
	}
	for i, p := range lists {
		for j, over := range overs(max(1, min(p.n, blocks))) {
			l, over := spared(p.l), spared(over)
			before, beforeOver := whole(l), whole(over)
			answers(p.n, l, over)
			extmap.Check(p.n, l)
			extmap.Many(l, 2)
			if !slices.EqualFunc(whole(l), before, same) || !slices.EqualFunc(whole(over), beforeOver, same) {
				t.Errorf("%d, %d: an argument was changed", i, j)
			}
		}
	}
}

// R4: answers are in memory of their own: writing over them changes no argument, and the other way round.
func TestAnswersAreNew(t *testing.T) {
	for i, p := range maps() {
		for j, over := range overs(p.n) {
			l, over := spared(p.l), spared(over)
			before, beforeOver := whole(l), whole(over)
			got := answers(p.n, l, over)
			for k, a := range got {
				fill(a, byte(k))
			}
			if !slices.EqualFunc(whole(l), before, same) || !slices.EqualFunc(whole(over), beforeOver, same) {
				t.Errorf("%d, %d: an argument shares an answer's memory", i, j)
			}
			got = answers(p.n, l, over)
			var told [][]api.Extent
			for _, a := range got {
				told = append(told, deep(a))
			}
			fill(l, 0x55)
			fill(over, 0x66)
			for k, a := range got {
				if !slices.EqualFunc(a, told[k], same) {
					t.Errorf("%d, %d: answer %d shares an argument's memory", i, j, k)
				}
			}
		}
	}
	a, _ := extmap.New(8)
	fill(a, 0x77)
	b, e := extmap.New(8)
	isList(t, b, e, []api.Extent{holes(0, 8, 0)}, api.OK, "New behind another one")
}

// R4: no two extents of an answer share memory, and no two answers.
func TestAnswersShareNothing(t *testing.T) {
	for i, p := range maps() {
		for j, over := range overs(p.n) {
			got := answers(p.n, spared(p.l), spared(over))
			all := slices.Concat(got...)
			for k, x := range all {
				copy(x.Data[:cap(x.Data)], bytes.Repeat([]byte{byte(k)}, cap(x.Data)))
			}
			for k, x := range all {
				if !bytes.Equal(x.Data[:cap(x.Data)], bytes.Repeat([]byte{byte(k)}, cap(x.Data))) {
					t.Errorf("%d, %d: extent %d shares memory with another one", i, j, k)
				}
			}
		}
	}
}

// R5: an answer hangs neither on a capacity, nor on what was asked ahead.
func TestAnswersHangOnArgumentsAlone(t *testing.T) {
	for i, p := range maps() {
		for j, over := range overs(p.n) {
			first := answers(p.n, p.l, over)
			for k, a := range answers(p.n, spared(p.l), spared(over)) {
				if !slices.EqualFunc(a, first[k], same) {
					t.Errorf("%d, %d: answer %d: %v, not %v", i, j, k, brief(a), brief(first[k]))
				}
			}
		}
	}
	for i, p := range noMaps() {
		if extmap.Check(p.n, spared(p.l)) || extmap.Many(p.l, 1) != extmap.Many(spared(p.l), 1) {
			t.Errorf("%d: Check or Many", i)
		}
	}
}
