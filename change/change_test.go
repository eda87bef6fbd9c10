package change_test

import (
	"bytes"
	"math"
	"slices"
	"testing"

	"waggoner/api"
	"waggoner/change"
)

// The numbers of the chapters, not api's, so that both are held against each other.
const (
	block    = 32
	blocks   = 64
	maxGen   = 1<<31 - 1
	maxId    = 1<<31 - 1
	maxStage = 1000
	maxBytes = 4096
	head     = 9
)

// Kinds, by the chapter's numbers.
const (
	mWrite = 1
	mZero  = 2
	mTrim  = 3
	mMake  = 4
	mDrop  = 5
	mStage = 6
	mAbort = 7
	mApply = 8
)

// kinds are all that a change may be.
var kinds = []int{1, 2, 3, 4, 5, 6, 7, 8}

// noKinds are none; some have the lowest byte of one.
var noKinds = []int{0, 9, -1, 10, 16, -8, 255, 256, 257, 258, 264, -255, -248, 1 << 32, 1<<32 + 1, 1<<32 + 8, math.MinInt, math.MinInt + 1, math.MinInt + 8, math.MaxInt - 1, math.MaxInt}

// ids are edges of what a checkpoint's number may be.
var ids = []int{1, 2, 3, 255, 256, 258, 65535, 65536, 1<<24 + 5, 0x01020304, 1 << 30, maxId - 1, maxId}

// noIds are none; some have the lowest four bytes of one.
var noIds = []int{0, -1, -2, maxId + 1, maxId + 2, 1<<32 - 1, 1 << 32, 1<<32 + 1, -1 << 31, -1 << 32, -1<<32 + 1, math.MinInt, math.MinInt + 1, math.MaxInt - 1, math.MaxInt}

// far are numbers at the limits of blocks, and at the ends of what an int holds, where some go round when they are added, or multiplied.
var far = []int{math.MinInt, math.MinInt + 1, math.MinInt + 63, math.MinInt + 64, math.MinInt + 65, -1 << 59, -1 << 32, -1<<32 + 8, -1 << 31, -256, -65, -64, -63, -32, -2, -1, 0, 1, 2, 8, 31, 32, 33, 62, 63, 64, 65, 66, 128, 255, 256, 257, 264, 320, 1 << 31, 1 << 32, 1<<32 + 1, 1<<32 + 8, 1 << 58, 1 << 59, 1<<59 + 1, 1<<59 + 2, math.MaxInt - 64, math.MaxInt - 63, math.MaxInt - 62, math.MaxInt - 1, math.MaxInt}

// mixed are n bytes of all kinds, the same ones for the same seed.
func mixed(n int, seed uint32) []byte {
	out := make([]byte, n)
	for i := range out {
		seed = seed*1664525 + 1013904223
		out[i] = byte(seed >> 24)
	}
	return out
}

// dice throws numbers from 0 on that are less than n, the same ones for the same seed.
type dice uint32

func (d *dice) throw(n int) int {
	*d = *d*1664525 + 1013904223
	return int(*d>>8) % n
}

// of are some blocks, that have as many bytes as they are to have.
func of(lba, n, kind, gen int) api.Extent {
	x := api.Extent{Lba: lba, Len: n, Kind: kind, Gen: gen}
	if kind == 2 {
		x.Data = mixed(n*block, uint32(lba+n*100+1))
	}
	return x
}

func write(lba, n int) api.Change {
	return api.Change{Kind: mWrite, Lba: lba, N: n, Data: mixed(n*block, uint32(lba+n*100+7))}
}

func stage(n int) api.Change {
	return api.Change{Kind: mStage, Data: mixed(n, uint32(n))}
}

func apply(id int, l ...api.Extent) api.Change {
	return api.Change{Kind: mApply, Id: id, List: l}
}

// right is a change of a Kind that may be.
func right(kind int) api.Change {
	switch kind {
	case mWrite:
		return write(3, 2)
	case mZero, mTrim:
		return api.Change{Kind: kind, Lba: 3, N: 2}
	case mMake, mDrop:
		return api.Change{Kind: kind, Id: 258}
	case mStage:
		return stage(20)
	case mApply:
		return apply(258, of(1, 2, 1, 3), of(5, 1, 2, 4))
	}
	return api.Change{Kind: kind}
}

// row are extents of n blocks each, one behind the other, between two of which stand apart so many.
func row(n, apart, kind int) []api.Extent {
	var l []api.Extent
	for lba := 0; lba+n <= blocks; lba += n + apart {
		l = append(l, of(lba, n, kind, lba))
	}
	return l
}

// lists are extents that stand one behind the other: that touch, that join, and that stand apart.
func lists() [][]api.Extent {
	out := [][]api.Extent{
		nil, {},
		{of(0, 1, 0, 0)}, {of(63, 1, 1, maxGen)}, {of(0, 64, 0, 0)}, {of(0, 64, 1, 9)}, {of(0, 64, 2, maxGen)}, {of(10, 3, 2, 258)},
		{of(0, 32, 0, 1), of(32, 32, 0, 1)}, {of(0, 32, 1, 1), of(32, 32, 1, 2)}, {of(0, 1, 2, 1), of(1, 1, 2, 1), of(2, 1, 2, 1)},
		{of(0, 1, 0, 1), of(63, 1, 0, 1)}, {of(4, 2, 1, 7), of(6, 1, 2, 0), of(8, 3, 0, 3), of(62, 2, 2, 1<<24)},
	}
	for _, kind := range []int{0, 1, 2} {
		out = append(out, row(1, 0, kind), row(1, 1, kind), row(2, 0, kind), row(7, 3, kind), row(1, 0, kind)[:63])
	}
	return out
}

// wrongExtents are some that may not be, for one thing or for several.
func wrongExtents() []api.Extent {
	return []api.Extent{{}, {Len: -1}, {Lba: -1, Len: 1}, {Lba: -1, Len: 2}, {Lba: 64, Len: 1}, {Lba: 63, Len: 2}, {Lba: 1, Len: 64}, {Len: 65},
		{Len: 1, Kind: 3}, {Len: 1, Kind: -1}, {Len: 1, Kind: 256}, {Len: 1, Gen: -1}, {Len: 1, Gen: maxGen + 1}, {Len: 1, Gen: 1 << 32},
		{Len: 1, Data: []byte{0}}, {Len: 1, Kind: 1, Data: make([]byte, block)}, {Len: 1, Kind: 2}, {Len: 1, Kind: 2, Data: make([]byte, block-1)}, {Len: 1, Kind: 2, Data: make([]byte, block+1)},
		{Lba: math.MaxInt, Len: 1}, {Lba: 1, Len: math.MaxInt}, {Lba: math.MinInt, Len: math.MinInt}, {Lba: math.MinInt, Len: 1}, {Lba: math.MaxInt, Len: math.MaxInt}}
}

// wrongLists are some of which an extent may not be, or that overlap, or stand in a wrong order, or are too many.
func wrongLists() [][]api.Extent {
	var out [][]api.Extent
	for _, x := range wrongExtents() {
		out = append(out, []api.Extent{x}, []api.Extent{of(5, 2, 1, 1), x}, []api.Extent{x, of(5, 2, 1, 1)}, []api.Extent{of(0, 5, 0, 1), x, of(63, 1, 2, 1)})
	}
	for _, kind := range []int{0, 1, 2} {
		a, b, c := of(5, 3, kind, 1), of(8, 2, kind, 2), of(20, 44, kind, 3)
		out = append(out, []api.Extent{a, a}, []api.Extent{b, a}, []api.Extent{c, a}, []api.Extent{a, c, b}, []api.Extent{c, b, a}, []api.Extent{a, b, c, c}, []api.Extent{b, a, c},
			[]api.Extent{a, of(7, 1, kind, 1)}, []api.Extent{a, of(7, 9, kind, 2)}, []api.Extent{a, of(5, 1, 0, 1)}, []api.Extent{a, of(4, 1, kind, 1)}, []api.Extent{a, of(4, 9, kind, 1)}, []api.Extent{a, b, of(9, 1, kind, 1), c},
			[]api.Extent{of(0, 64, kind, 1), of(63, 1, kind, 1)}, []api.Extent{of(0, 1, kind, 1), of(0, 64, kind, 1)}, []api.Extent{of(63, 1, kind, 1), of(0, 1, kind, 1)})
		all := row(1, 0, kind)
		out = append(out, append(slices.Clone(all), of(63, 1, kind, 1)), append(slices.Clone(all), of(0, 1, kind, 1)), append([]api.Extent{of(0, 1, kind, 1)}, all...), append(slices.Clone(all), api.Extent{Lba: 64, Len: 1, Kind: kind}), slices.Concat(all, all), slices.Repeat(all, 4), slices.Repeat(all[:1], 257))
		slices.Reverse(all)
		out = append(out, all)
	}
	return out
}

// rightChanges are some of all Kinds, at all edges that the chapter names.
func rightChanges() []api.Change {
	out := []api.Change{{Kind: mAbort}, {Kind: mAbort, Data: []byte{}, List: []api.Extent{}}}
	for _, c := range [][2]int{{0, 1}, {0, 2}, {1, 1}, {3, 5}, {0, 63}, {0, 64}, {1, 63}, {62, 1}, {62, 2}, {63, 1}, {32, 32}} {
		out = append(out, write(c[0], c[1]), api.Change{Kind: mZero, Lba: c[0], N: c[1]}, api.Change{Kind: mTrim, Lba: c[0], N: c[1]})
	}
	out = append(out, api.Change{Kind: mWrite, Lba: 7, N: 3, Data: make([]byte, 3*block)}, api.Change{Kind: mStage, Data: make([]byte, 9)})
	for _, id := range ids {
		out = append(out, api.Change{Kind: mMake, Id: id}, api.Change{Kind: mDrop, Id: id}, apply(id), apply(id, of(1, 2, 1, 3)))
	}
	for _, n := range []int{1, 2, 9, 255, 256, 257, 511, 512, 999, 1000} {
		out = append(out, stage(n))
	}
	for _, l := range lists() {
		out = append(out, apply(7, l...))
	}
	return out
}

// wrongChanges are some that may not be, for one thing or for several.
func wrongChanges() []api.Change {
	var out []api.Change
	for _, kind := range noKinds {
		for _, like := range kinds {
			c := right(like)
			c.Kind = kind
			out = append(out, c)
		}
		out = append(out, api.Change{Kind: kind}, api.Change{Kind: kind, N: 1}, api.Change{Kind: kind, Id: 1})
	}
	for _, kind := range kinds {
		c := right(kind)
		for _, n := range far {
			d, e := c, c
			d.Lba, e.N = n, n
			out = append(out, d, e)
		}
		for _, id := range slices.Concat(ids, noIds) {
			d := c
			d.Id = id
			out = append(out, d)
		}
		for _, n := range []int{0, 1, 31, 32, 33, 63, 64, 65, 96, 999, 1000, 1001, 1032, 2048, 2049, 4096, 65535, 65536, 65537, 65536 + 64} {
			d := c
			d.Data = mixed(n, 3)
			out = append(out, d)
		}
		for _, l := range slices.Concat(lists(), wrongLists()) {
			d := c
			d.List = l
			out = append(out, d)
		}
	}
	return slices.DeleteFunc(out, mayBe)
}

// mayStand is chapter 7's word of an extent that may be.
func mayStand(x api.Extent) bool {
	if x.Lba < 0 || x.Len < 1 || x.Lba > blocks || x.Len > blocks || x.Lba+x.Len > blocks {
		return false
	}
	if x.Gen < 0 || x.Gen > maxGen {
		return false
	}
	switch x.Kind {
	case 0, 1:
		return len(x.Data) == 0
	case 2:
		return len(x.Data) == x.Len*block
	}
	return false
}

// mayBeBlocks tells whether Lba is at least 0, N at least 1, and both together at most 64.
func mayBeBlocks(lba, n int) bool {
	return lba >= 0 && n >= 1 && lba <= blocks && n <= blocks && lba+n <= blocks
}

// mayBeList is P10.1's word of a List.
func mayBeList(l []api.Extent) bool {
	if len(l) > blocks {
		return false
	}
	for i, x := range l {
		if !mayStand(x) || i > 0 && x.Lba < l[i-1].Lba+l[i-1].Len {
			return false
		}
	}
	return true
}

// mayBe is P10.1, word by word: what a Kind names is taken away, and what is left is held to be 0, or none.
func mayBe(c api.Change) bool {
	switch c.Kind {
	case mWrite:
		if !mayBeBlocks(c.Lba, c.N) || len(c.Data) != c.N*block {
			return false
		}
		c.Lba, c.N, c.Data = 0, 0, nil
	case mZero, mTrim:
		if !mayBeBlocks(c.Lba, c.N) {
			return false
		}
		c.Lba, c.N = 0, 0
	case mMake, mDrop:
		if c.Id < 1 || c.Id > maxId {
			return false
		}
		c.Id = 0
	case mStage:
		if len(c.Data) < 1 || len(c.Data) > maxStage {
			return false
		}
		c.Data = nil
	case mAbort:
	case mApply:
		if c.Id < 1 || c.Id > maxId || !mayBeList(c.List) {
			return false
		}
		c.Id, c.List = 0, nil
	default:
		return false
	}
	return c.Lba == 0 && c.N == 0 && c.Id == 0 && len(c.Data) == 0 && len(c.List) == 0
}

// written are P10.2's bytes, one by one.
func written(c api.Change) []byte {
	b := []byte{byte(c.Kind), byte(c.Lba), byte(c.N), byte(c.Id), byte(c.Id >> 8), byte(c.Id >> 16), byte(c.Id >> 24), byte(len(c.Data)), byte(len(c.Data) >> 8)}
	b = append(b, c.Data...)
	if c.Kind != mApply {
		return b
	}
	b = append(b, byte(len(c.List)))
	for _, x := range c.List {
		b = append(b, byte(x.Lba), byte(x.Len), byte(x.Kind), byte(x.Gen), byte(x.Gen>>8), byte(x.Gen>>16), byte(x.Gen>>24))
		b = append(b, x.Data...)
	}
	return b
}

// number is what four bytes are, or fewer.
func number(b []byte) int {
	n := 0
	for i, c := range b {
		n += int(c) << (8 * i)
	}
	return n
}

// listBy are the extents that bytes may be, as far as they go.
func listBy(b []byte) []api.Extent {
	var l []api.Extent
	for b = b[min(1, len(b)):]; len(b) >= 7; {
		x := api.Extent{Lba: int(b[0]), Len: int(b[1]), Kind: int(b[2]), Gen: number(b[3:7])}
		b = b[7:]
		if n := x.Len * block; x.Kind == 2 && n <= len(b) {
			x.Data, b = b[:n], b[n:]
		}
		l = append(l, x)
	}
	return l
}

// readBy is P10.2's Read: a change that may be, whose bytes are just these.
func readBy(b []byte) (api.Change, bool) {
	if len(b) < head {
		return api.Change{}, false
	}
	c := api.Change{Kind: int(b[0]), Lba: int(b[1]), N: int(b[2]), Id: number(b[3:7])}
	end := head + number(b[7:9])
	if end > len(b) {
		return api.Change{}, false
	}
	c.Data = b[head:end]
	if c.Kind == mApply {
		c.List = listBy(b[end:])
	}
	if !mayBe(c) || !bytes.Equal(written(c), b) {
		return api.Change{}, false
	}
	return c, true
}

// isTooGreat tells whether a number of an extent does not fit in its bytes, so that what is written is another one.
func isTooGreat(x api.Extent) bool {
	return x.Lba>>8 != 0 || x.Len>>8 != 0 || x.Kind>>8 != 0 || x.Gen>>32 != 0
}

// sameExtent tells whether two extents are alike.
func sameExtent(a, b api.Extent) bool {
	return a.Lba == b.Lba && a.Len == b.Len && a.Kind == b.Kind && a.Gen == b.Gen && bytes.Equal(a.Data, b.Data)
}

// same tells whether two changes are alike.
func same(a, b api.Change) bool {
	return a.Kind == b.Kind && a.Lba == b.Lba && a.N == b.N && a.Id == b.Id && bytes.Equal(a.Data, b.Data) && slices.EqualFunc(a.List, b.List, sameExtent)
}

// brief tells a change in few words: its numbers, how many bytes Data has, and of each extent the numbers and how many bytes.
func brief(c api.Change) []any {
	out := []any{c.Kind, c.Lba, c.N, c.Id, len(c.Data)}
	for _, x := range c.List[:min(len(c.List), 5)] {
		out = append(out, []int{x.Lba, x.Len, x.Kind, x.Gen, len(x.Data)})
	}
	return append(out, len(c.List))
}

// isNone says if a change may be, or is written, or if bytes stand beside the error.
func isNone(t *testing.T, c api.Change) {
	t.Helper()
	if change.Check(c) {
		t.Errorf("%v: may be", brief(c))
	}
	if b, e := change.Write(c); e != 100 || len(b) != 0 {
		t.Errorf("%v: written as %x, %d", brief(c), b, e)
	}
}

// isOne says if a change may not be, or is written as other bytes than by P10.2, or is read of them as another one.
func isOne(t *testing.T, c api.Change) {
	t.Helper()
	if !change.Check(c) {
		t.Errorf("%v: may not be", brief(c))
	}
	b, e := change.Write(c)
	if want := written(c); e != api.OK || !bytes.Equal(b, want) {
		t.Errorf("%v: written as %x, %d, not %x", brief(c), b, e, want)
	}
	if d, e := change.Read(b); e != api.OK || !same(c, d) {
		t.Errorf("%v: read as %v, %d", brief(c), brief(d), e)
	}
}

// isBy says if a change may be, or may not, otherwise than P10.1 asks, or is written otherwise.
func isBy(t *testing.T, c api.Change) {
	t.Helper()
	if mayBe(c) {
		isOne(t, c)
	} else {
		isNone(t, c)
	}
}

// isReadBy says if bytes are read otherwise than P10.2 asks; whether they are a change's.
func isReadBy(t *testing.T, b []byte, what string, numbers ...any) bool {
	t.Helper()
	want, ok := readBy(b)
	wantE := api.Errno(100)
	if ok {
		wantE = api.OK
	}
	got, e := change.Read(b)
	if e != wantE || !same(got, want) {
		t.Errorf(what+": %v, %d; not %v, %d", append(numbers, brief(got), e, brief(want), wantE)...)
	}
	return ok
}

// isNoRead says if bytes are read as a change, or if one stands beside the error.
func isNoRead(t *testing.T, b []byte, what string, numbers ...any) {
	t.Helper()
	if isReadBy(t, b, what, numbers...) {
		t.Errorf(what+": a change", numbers...)
	}
}

// P10.1, P10.2: the numbers of the chapter are api's.
func TestLimits(t *testing.T) {
	if api.Block != block || api.Blocks != blocks || api.MaxId != maxId || api.MaxStage != maxStage || api.MaxGen != maxGen || api.ErrChange != 100 {
		t.Errorf("%d, %d, %d, %d, %d, %d", api.Block, api.Blocks, api.MaxId, api.MaxStage, api.MaxGen, api.ErrChange)
	}
	if l := []int{api.MWrite, api.MZero, api.MTrim, api.MMake, api.MDrop, api.MStage, api.MAbort, api.MApply}; !slices.Equal(l, kinds) {
		t.Errorf("%v", l)
	}
}

// P10.1, P10.2: one of each Kind.
func TestOneOfEachKind(t *testing.T) {
	for _, kind := range kinds {
		isOne(t, right(kind))
	}
}

// P10.1: changes of all Kinds, at all edges that the chapter names.
func TestCheckOfRightChanges(t *testing.T) {
	for i, c := range rightChanges() {
		if !change.Check(c) {
			t.Errorf("%d: %v", i, brief(c))
		}
	}
}

// P10.1, P10.2, R1, R2: changes that may not be are not written, and no bytes stand beside the error.
func TestWrongChanges(t *testing.T) {
	for _, c := range wrongChanges() {
		isNone(t, c)
	}
}

// P10.1, R1: Kinds of 1 to 8, and no others, whatever else a change has.
func TestCheckOfKinds(t *testing.T) {
	for _, kind := range slices.Concat(kinds, noKinds) {
		for _, like := range kinds {
			c := right(like)
			c.Kind = kind
			isBy(t, c)
		}
		if got := change.Check(api.Change{Kind: kind}); got != (kind == mAbort) {
			t.Errorf("Kind %d alone: %v", kind, got)
		}
	}
}

// P10.1: what a Kind does not name is 0, or none: one at a time, and two.
func TestCheckOfWhatIsNotNamed(t *testing.T) {
	named := [][]bool{mWrite: {true, true, false, true, false}, mZero: {true, true, false, false, false}, mTrim: {true, true, false, false, false},
		mMake: {false, false, true, false, false}, mDrop: {false, false, true, false, false}, mStage: {false, false, false, true, false},
		mAbort: {false, false, false, false, false}, mApply: {false, false, true, false, true}}
	fields := []string{"Lba", "N", "Id", "Data", "List"}
	for _, kind := range kinds {
		for i, is := range named[kind] {
			if is {
				continue
			}
			for _, n := range []int{1, 2, 32, -1, 64, 256, 1 << 32, math.MinInt, math.MaxInt} {
				c := right(kind)
				switch i {
				case 0:
					c.Lba = n
				case 1:
					c.N = n
				case 2:
					c.Id = n
				case 3:
					c.Data = make([]byte, n&1023+1)
				case 4:
					c.List = row(1, 0, 0)[:n&63+1]
				}
				if change.Check(c) {
					t.Errorf("Kind %d, %s of %d: may be", kind, fields[i], n)
				}
				isNone(t, c)
			}
		}
		c := right(kind)
		if !named[kind][3] {
			c.Data = []byte{}
		}
		if !named[kind][4] {
			c.List = []api.Extent{}
		}
		isOne(t, c)
	}
	for _, n := range []int{1, -1, math.MinInt} {
		isNone(t, api.Change{Kind: mMake, Lba: n, N: -n, Id: 1})
		isNone(t, api.Change{Kind: mAbort, Lba: n, N: n, Id: n})
	}
}

// P10.1: Lba and N at all edges, and beyond them, together.
func TestCheckOfBlocks(t *testing.T) {
	for _, lba := range far {
		for _, n := range far {
			for _, kind := range []int{mWrite, mZero, mTrim} {
				c := api.Change{Kind: kind, Lba: lba, N: n}
				if kind == mWrite {
					c.Data = make([]byte, min(max(n, 0), 320)*block)
				}
				isBy(t, c)
			}
		}
	}
}

// P10.1: all blocks that there are, and some that there are not.
func TestCheckOfAllBlocks(t *testing.T) {
	text := make([]byte, 70*block)
	for lba := -2; lba < 70; lba++ {
		for n := -2; n < 70; n++ {
			want := lba >= 0 && n >= 1 && lba+n <= 64
			for _, kind := range []int{mWrite, mZero, mTrim} {
				c := api.Change{Kind: kind, Lba: lba, N: n}
				if kind == mWrite {
					c.Data = text[:max(n, 0)*block]
				}
				if got := change.Check(c); got != want {
					t.Errorf("Kind %d, Lba %d, N %d: %v", kind, lba, n, got)
				}
			}
		}
	}
}

// P10.1: of MWrite, Data has N times 32 bytes, not one more, and not one fewer; of MZero and MTrim, none.
func TestCheckOfDataOfBlocks(t *testing.T) {
	for _, n := range []int{1, 2, 3, 31, 32, 63, 64} {
		for _, size := range []int{0, 1, n, n*block - block, n*block - 1, n * block, n*block + 1, n*block + block, 2048, 65536 + n*block} {
			c := api.Change{Kind: mWrite, N: n, Data: make([]byte, size)}
			if got := change.Check(c); got != (size == n*block) {
				t.Errorf("N %d, %d bytes: %v", n, size, got)
			}
			isBy(t, c)
			for _, kind := range []int{mZero, mTrim} {
				c.Kind = kind
				isBy(t, c)
			}
		}
	}
	for _, n := range far {
		isBy(t, api.Change{Kind: mWrite, N: n, Data: make([]byte, int(uint16(n*block)))})
	}
}

// P10.1: Ids of 1 to MaxId, of each Kind that names one.
func TestCheckOfIds(t *testing.T) {
	for _, kind := range []int{mMake, mDrop, mApply} {
		for _, id := range ids {
			if !change.Check(api.Change{Kind: kind, Id: id}) {
				t.Errorf("Kind %d, Id %d: may not be", kind, id)
			}
			isOne(t, api.Change{Kind: kind, Id: id})
		}
		for _, id := range noIds {
			isNone(t, api.Change{Kind: kind, Id: id})
		}
	}
	for _, id := range noIds {
		isNone(t, apply(id, of(1, 1, 1, 1)))
	}
}

// P10.1: of MStage, Data has 1 to 1000 bytes.
func TestCheckOfParts(t *testing.T) {
	for n := range 1100 {
		if got := change.Check(stage(n)); got != (n >= 1 && n <= 1000) {
			t.Errorf("%d bytes: %v", n, got)
		}
	}
	for _, n := range []int{0, 1, 1000, 1001, 2000, 4000, 4096, 65535, 65536, 65537, 66536} {
		isBy(t, stage(n))
	}
}

// P10.1: extents that touch, that join, and that stand apart; up to 64.
func TestCheckOfLists(t *testing.T) {
	for _, l := range lists() {
		if !change.Check(apply(1, l...)) {
			t.Errorf("%v: may not be", brief(apply(1, l...)))
		}
		isOne(t, apply(1, l...))
	}
}

// P10.1, R1: extents that may not be, that overlap, that stand in a wrong order, and too many.
func TestCheckOfWrongLists(t *testing.T) {
	for _, l := range wrongLists() {
		if change.Check(apply(1, l...)) {
			t.Errorf("%v: may be", brief(apply(1, l...)))
		}
		isNone(t, apply(1, l...))
	}
}

// P10.1: any two extents of few blocks, whose places tell whether they may stand one behind the other.
func TestCheckOfAllPairs(t *testing.T) {
	for i := range 6 * 4 {
		for j := range 6 * 4 {
			a, b := of(i/4, i%4, i%3, 1), of(j/4, j%4, j%3, 2)
			want := i%4 > 0 && j%4 > 0 && j/4 >= i/4+i%4
			if got := change.Check(apply(1, a, b)); got != want {
				t.Errorf("%d of %d behind %d of %d: %v", b.Len, b.Lba, a.Len, a.Lba, got)
			}
			isBy(t, apply(1, a, b))
			isBy(t, apply(1, a, b, of(9, 1, 2, 5)))
			isBy(t, apply(1, of(0, 1, 0, 5), a, b))
		}
	}
}

// P10.1: lists by dice: of some that may be, each extent at another place.
func TestCheckOfThrownLists(t *testing.T) {
	d := dice(5)
	may := 0
	for range 3000 {
		var l []api.Extent
		at := 0
		for range d.throw(5) {
			x := of(min(max(at+d.throw(6)-1, 0), 63), 1+d.throw(4), d.throw(3), d.throw(300))
			at = x.Lba + x.Len
			l = append(l, x)
		}
		c := apply(1+d.throw(maxId), l...)
		if mayBe(c) {
			may++
		}
		isBy(t, c)
	}
	if may < 500 || may > 2500 {
		t.Errorf("%d of 3000 may be", may)
	}
}

// P10.2: the chapter's example, and bytes by hand of each Kind.
func TestWriteByteByByte(t *testing.T) {
	text := mixed(64*block, 1)
	part := mixed(1000, 2)
	for i, c := range []struct {
		c    api.Change
		want []byte
	}{
		{api.Change{Kind: 3, Lba: 3, N: 5}, []byte{3, 3, 5, 0, 0, 0, 0, 0, 0}},
		{api.Change{Kind: 3, Lba: 63, N: 1}, []byte{3, 63, 1, 0, 0, 0, 0, 0, 0}},
		{api.Change{Kind: 3, Lba: 0, N: 64}, []byte{3, 0, 64, 0, 0, 0, 0, 0, 0}},
		{api.Change{Kind: 2, Lba: 1, N: 63}, []byte{2, 1, 63, 0, 0, 0, 0, 0, 0}},
		{api.Change{Kind: 1, Lba: 63, N: 1, Data: text[:32]}, append([]byte{1, 63, 1, 0, 0, 0, 0, 32, 0}, text[:32]...)},
		{api.Change{Kind: 1, Lba: 0, N: 8, Data: text[:256]}, append([]byte{1, 0, 8, 0, 0, 0, 0, 0, 1}, text[:256]...)},
		{api.Change{Kind: 1, Lba: 0, N: 64, Data: text}, append([]byte{1, 0, 64, 0, 0, 0, 0, 0, 8}, text...)},
		{api.Change{Kind: 4, Id: 1}, []byte{4, 0, 0, 1, 0, 0, 0, 0, 0}},
		{api.Change{Kind: 4, Id: 0x01020304}, []byte{4, 0, 0, 4, 3, 2, 1, 0, 0}},
		{api.Change{Kind: 4, Id: maxId}, []byte{4, 0, 0, 255, 255, 255, 127, 0, 0}},
		{api.Change{Kind: 5, Id: 256}, []byte{5, 0, 0, 0, 1, 0, 0, 0, 0}},
		{api.Change{Kind: 6, Data: part[:1]}, []byte{6, 0, 0, 0, 0, 0, 0, 1, 0, part[0]}},
		{api.Change{Kind: 6, Data: part[:258]}, append([]byte{6, 0, 0, 0, 0, 0, 0, 2, 1}, part[:258]...)},
		{api.Change{Kind: 6, Data: part}, append([]byte{6, 0, 0, 0, 0, 0, 0, 232, 3}, part...)},
		{api.Change{Kind: 7}, []byte{7, 0, 0, 0, 0, 0, 0, 0, 0}},
		{api.Change{Kind: 8, Id: 5}, []byte{8, 0, 0, 5, 0, 0, 0, 0, 0, 0}},
		{api.Change{Kind: 8, Id: 5, List: []api.Extent{{Lba: 62, Len: 2, Gen: 258}}}, []byte{8, 0, 0, 5, 0, 0, 0, 0, 0, 1, 62, 2, 0, 2, 1, 0, 0}},
		{api.Change{Kind: 8, Id: maxId, List: []api.Extent{{Len: 1, Kind: 1}, {Lba: 1, Len: 1, Kind: 2, Gen: maxGen, Data: text[:32]}}},
			slices.Concat([]byte{8, 0, 0, 255, 255, 255, 127, 0, 0, 2, 0, 1, 1, 0, 0, 0, 0, 1, 1, 2, 255, 255, 255, 127}, text[:32])},
	} {
		b, e := change.Write(c.c)
		if e != api.OK || !bytes.Equal(b, c.want) {
			t.Errorf("%d: %x, %d", i, b, e)
		}
		d, e := change.Read(c.want)
		if e != api.OK || !same(d, c.c) {
			t.Errorf("%d: %v, %d", i, brief(d), e)
		}
	}
}

// P10.2, P10.3: each change is written by the chapter's words, read as it was written, and has at most 4096 bytes.
func TestReadOfWhatWasWritten(t *testing.T) {
	for _, c := range rightChanges() {
		isOne(t, c)
		if b, _ := change.Write(c); len(b) > maxBytes {
			t.Errorf("%v: %d bytes", brief(c), len(b))
		}
	}
}

// P10.2: every shorter beginning of a change's bytes is none.
func TestReadOfFewBytes(t *testing.T) {
	for i, c := range rightChanges() {
		b := written(c)
		for n := range len(b) {
			isNoRead(t, b[:n], "%d: %d bytes of %d", i, n, len(b))
		}
	}
	isNoRead(t, nil, "none")
	isNoRead(t, []byte{}, "none")
}

// P10.2: with bytes behind, or ahead, a change's bytes are none.
func TestReadWithBytesBehind(t *testing.T) {
	for i, c := range rightChanges() {
		b := written(c)
		for _, more := range [][]byte{{0}, {1}, {255}, {0, 0}, make([]byte, 7), make([]byte, block), mixed(100, 1), b} {
			isNoRead(t, slices.Concat(b, more), "%d: %d bytes behind", i, len(more))
		}
		isReadBy(t, slices.Concat([]byte{0}, b), "%d: 0 ahead", i)
		isReadBy(t, slices.Concat([]byte{7}, b), "%d: 7 ahead", i)
	}
}

// P10.2: bytes with one turned are another change's, or none's.
func TestReadOfTurnedBytes(t *testing.T) {
	are := 0
	for i, c := range rightChanges() {
		b := written(c)
		for at := range b {
			was := b[at]
			values := []int{0, 255, int(was ^ 1), int(was ^ 128)}
			if at < 40 {
				values = make([]int, 256)
				for v := range values {
					values[v] = v
				}
			}
			for _, v := range values {
				b[at] = byte(v)
				if byte(v) != was && isReadBy(t, b, "%d: byte %d is %d, not %d", i, at, v, was) {
					are++
				}
			}
			b[at] = was
		}
	}
	if are < 1000 {
		t.Errorf("just %d are changes", are)
	}
}

// P10.2: each Kind's byte, and each other byte of the head, ahead of what each other Kind has.
func TestReadOfOtherHeads(t *testing.T) {
	for _, like := range kinds {
		b := written(right(like))
		for kind := range 256 {
			b[0] = byte(kind)
			isReadBy(t, b, "Kind %d with bytes of %d", kind, like)
			isReadBy(t, b[:head], "Kind %d with a head of %d", kind, like)
			isReadBy(t, append(slices.Clone(b[:head]), 0), "Kind %d with a head of %d, and 0", kind, like)
		}
	}
}

// P10.2: bytes whose numbers no change has: an Id above MaxId, more bytes of Data, or more extents, than there are or may be.
func TestReadOfWrongNumbers(t *testing.T) {
	text := mixed(65536, 1)
	for i, b := range [][]byte{
		{4, 0, 0, 0, 0, 0, 0, 0, 0}, {4, 0, 0, 0, 0, 0, 128, 0, 0}, {4, 0, 0, 1, 0, 0, 128, 0, 0}, {4, 0, 0, 255, 255, 255, 255, 0, 0}, {5, 0, 0, 0, 0, 0, 128, 0, 0}, {8, 0, 0, 0, 0, 0, 128, 0, 0, 0}, {8, 0, 0, 255, 255, 255, 255, 0, 0, 0},
		{2, 64, 1, 0, 0, 0, 0, 0, 0}, {2, 0, 65, 0, 0, 0, 0, 0, 0}, {2, 255, 1, 0, 0, 0, 0, 0, 0}, {2, 255, 255, 0, 0, 0, 0, 0, 0}, {2, 192, 128, 0, 0, 0, 0, 0, 0}, {2, 1, 0, 0, 0, 0, 0, 0, 0}, {3, 1, 64, 0, 0, 0, 0, 0, 0},
		slices.Concat([]byte{1, 0, 65, 0, 0, 0, 0, 32, 8}, text[:65*block]), slices.Concat([]byte{1, 0, 255, 0, 0, 0, 0, 224, 31}, text[:255*block]), {1, 0, 0, 0, 0, 0, 0, 0, 0}, {1, 0, 1, 0, 0, 0, 0, 0, 0},
		slices.Concat([]byte{6, 0, 0, 0, 0, 0, 0, 233, 3}, text[:1001]), slices.Concat([]byte{6, 0, 0, 0, 0, 0, 0, 255, 255}, text[:65535]), {6, 0, 0, 0, 0, 0, 0, 0, 0}, slices.Concat([]byte{6, 0, 0, 0, 0, 0, 0, 0, 0}, text), slices.Concat([]byte{6, 0, 0, 0, 0, 0, 0, 255, 255}, text[:65534]),
		{7, 1, 0, 0, 0, 0, 0, 0, 0}, {7, 0, 0, 0, 0, 0, 1, 0, 0}, {7, 0, 0, 0, 0, 0, 0, 1, 0, 9}, {7, 0, 0, 0, 0, 0, 0, 0, 0, 0}, {7, 0, 0, 0, 0, 0, 0, 1, 0}, {4, 0, 0, 1, 0, 0, 0, 0, 0, 0}, {2, 0, 1, 0, 0, 0, 0, 0, 0, 0}, {3, 0, 1, 0, 0, 0, 0, 1, 0, 0},
		{8, 0, 0, 1, 0, 0, 0, 0, 0}, {8, 0, 0, 1, 0, 0, 0, 0, 0, 1}, {8, 0, 0, 1, 0, 0, 0, 0, 0, 65}, {8, 0, 0, 1, 0, 0, 0, 0, 0, 255}, {8, 0, 0, 1, 0, 0, 0, 1, 0, 0}, {8, 0, 0, 1, 0, 0, 0, 1, 0, 0, 0}, {8, 1, 0, 1, 0, 0, 0, 0, 0, 0}, {8, 0, 1, 1, 0, 0, 0, 0, 0, 0},
		{8, 0, 0, 1, 0, 0, 0, 0, 0, 2, 3, 1, 0, 0, 0, 0, 0, 3, 1, 0, 0, 0, 0, 0}, {8, 0, 0, 1, 0, 0, 0, 0, 0, 2, 3, 1, 0, 0, 0, 0, 0, 2, 1, 0, 0, 0, 0, 0}, {8, 0, 0, 1, 0, 0, 0, 0, 0, 1, 3, 1, 0, 0, 0, 0, 128}, {8, 0, 0, 1, 0, 0, 0, 0, 0, 1, 3, 1, 3, 0, 0, 0, 0}, {8, 0, 0, 1, 0, 0, 0, 0, 0, 1, 3, 0, 0, 0, 0, 0, 0},
		make([]byte, 9), make([]byte, 10), bytes.Repeat([]byte{255}, 9), bytes.Repeat([]byte{255}, 65544), {9, 0, 0, 0, 0, 0, 0, 0, 0}, {0, 0, 1, 0, 0, 0, 0, 0, 0},
	} {
		isNoRead(t, b, "%d", i)
	}
	for _, l := range wrongLists() {
		c := apply(1, l...)
		if !slices.ContainsFunc(l, isTooGreat) && len(l) < 256 {
			isNoRead(t, written(c), "%v", brief(c))
		}
		isReadBy(t, written(c), "%v, its lowest bytes", brief(c))
	}
}

// P10.2, R1: bytes by dice, mostly at the limits.
func TestReadOfThrownBytes(t *testing.T) {
	d := dice(11)
	are := 0
	edges := []byte{0, 0, 0, 0, 0, 1, 2, 3, 63, 64}
	for i := range 60000 {
		b := make([]byte, d.throw(30))
		for j := range b {
			b[j] = edges[d.throw(len(edges))]
		}
		if len(b) >= head {
			b[0] = byte(d.throw(10))
			b[7], b[8] = byte(d.throw(2)*(len(b)-head)), 0
		}
		if isReadBy(t, b, "%d: %v", i, b) {
			are++
		}
	}
	if are < 100 {
		t.Errorf("just %d are changes", are)
	}
}

// P10.3: unlike changes have unlike bytes.
func TestUnlikeChangesHaveUnlikeBytes(t *testing.T) {
	all := rightChanges()
	for lba := range blocks {
		for n := 1; lba+n <= blocks; n++ {
			all = append(all, api.Change{Kind: mZero, Lba: lba, N: n}, api.Change{Kind: mTrim, Lba: lba, N: n})
			all = append(all, apply(1, of(lba, n, 0, 1)), apply(1, of(lba, n, 1, 1)), apply(1, of(lba, n, 0, 2)), apply(2, of(lba, n, 1, 1)))
		}
	}
	for id := 1; id < 700; id++ {
		all = append(all, api.Change{Kind: mMake, Id: id}, api.Change{Kind: mDrop, Id: id}, apply(id))
	}
	for i := range 2 * block * 8 {
		text := make([]byte, 2*block)
		text[i/8] = 1 << (i % 8)
		all = append(all, api.Change{Kind: mWrite, Lba: 2, N: 2, Data: text}, api.Change{Kind: mStage, Data: text}, apply(3, api.Extent{Len: 2, Kind: 2, Data: text}))
	}
	by := make(map[string]api.Change)
	for _, c := range all {
		b, e := change.Write(c)
		if e != api.OK {
			t.Errorf("%v: %d", brief(c), e)
		}
		if d, ok := by[string(b)]; ok && !same(c, d) {
			t.Errorf("%v and %v: both %x", brief(c), brief(d), b)
		}
		by[string(b)] = c
	}
}

// P10.3: the greatest of each Kind has at most 4096 bytes: 64 blocks of data in as many extents are 2506.
func TestGreatestChanges(t *testing.T) {
	for _, c := range []struct {
		c    api.Change
		want int
	}{
		{write(0, 64), 9 + 2048}, {api.Change{Kind: mZero, N: 64}, 9}, {api.Change{Kind: mMake, Id: maxId}, 9}, {stage(1000), 1009},
		{apply(maxId, row(1, 0, 2)...), 9 + 1 + 64*(7+32)}, {apply(maxId, row(1, 0, 1)...), 9 + 1 + 64*7}, {apply(maxId, of(0, 64, 2, maxGen)), 9 + 1 + 7 + 2048},
	} {
		b, e := change.Write(c.c)
		if e != api.OK || len(b) != c.want || len(b) > maxBytes {
			t.Errorf("%v: %d bytes, %d", brief(c.c), len(b), e)
		}
	}
}

// spared are the same bytes, with spare room that is filled.
func spared(b []byte) []byte {
	return append(slices.Clone(b), bytes.Repeat([]byte{0xaa}, 100)...)[: len(b) : len(b)+100]
}

// sparedChange is the same change, whose lists all have spare room that is filled.
func sparedChange(c api.Change) api.Change {
	c.Data = spared(c.Data)
	l := make([]api.Extent, 0, len(c.List)+3)
	for _, x := range c.List {
		x.Data = spared(x.Data)
		l = append(l, x)
	}
	more := l[len(l):cap(l)]
	for i := range more {
		more[i] = of(40+i, 1, 2, 9)
	}
	c.List = l
	return c
}

// whole is a copy of a list and its spare room.
func whole[T any](l []T) []T { return slices.Clone(l[:cap(l)]) }

// wholeChange is a copy of a change, with all spare room in it as members.
func wholeChange(c api.Change) api.Change {
	c.Data, c.List = whole(c.Data), whole(c.List)
	for i := range c.List {
		c.List[i].Data = whole(c.List[i].Data)
	}
	return c
}

// fill writes over a list and its spare room.
func fill[T any](l []T, x T) {
	l = l[:cap(l)]
	for i := range l {
		l[i] = x
	}
}

// texts are all bytes of a change.
func texts(c api.Change) [][]byte {
	out := [][]byte{c.Data}
	for _, x := range c.List {
		out = append(out, x.Data)
	}
	return out
}

// R4: what is handed in is left as it was, its spare room included.
func TestArgumentsAreLeft(t *testing.T) {
	for i, c := range slices.Concat(rightChanges(), wrongChanges()) {
		c = sparedChange(c)
		before := wholeChange(c)
		change.Check(c)
		change.Write(c)
		if !same(wholeChange(c), before) {
			t.Errorf("%d: the change is another one", i)
		}
	}
	for i, c := range rightChanges() {
		b := spared(written(c))
		before := whole(b)
		change.Read(b)
		change.Read(b[:len(b)-1])
		change.Read(b[:len(b)+1])
		if !bytes.Equal(whole(b), before) {
			t.Errorf("%d: the bytes are others", i)
		}
	}
}

// R4: bytes that are written share no memory with the change, nor with what is written again.
func TestWriteIsNew(t *testing.T) {
	for i, c := range rightChanges() {
		c = sparedChange(c)
		before := wholeChange(c)
		b, _ := change.Write(c)
		again, _ := change.Write(c)
		want := slices.Clone(again)
		fill(b, 0x55)
		if !same(wholeChange(c), before) || !bytes.Equal(again, want) {
			t.Errorf("%d: the bytes share the change's memory, or others'", i)
		}
		for _, text := range texts(c) {
			fill(text, 0x77)
		}
		fill(c.List, api.Extent{})
		if !bytes.Equal(again, want) {
			t.Errorf("%d: the bytes share the change's memory", i)
		}
	}
}

// R4: a change that is read shares no memory with the bytes, nor with one that is read again, and no two lists of it share any.
func TestReadIsNew(t *testing.T) {
	for i, c := range rightChanges() {
		b := spared(written(c))
		before := whole(b)
		got, _ := change.Read(b)
		again, _ := change.Read(b)
		fill(b, 0x55)
		if !same(got, c) {
			t.Errorf("%d: the change shares the bytes' memory", i)
		}
		copy(b[:cap(b)], before)
		all := texts(got)
		for j, text := range all {
			fill(text, byte(j))
		}
		for j, text := range all {
			if !bytes.Equal(whole(text), bytes.Repeat([]byte{byte(j)}, cap(text))) {
				t.Errorf("%d: bytes %d share memory with others", i, j)
			}
		}
		fill(got.List, api.Extent{Lba: 99})
		if !same(again, c) || !bytes.Equal(whole(b), before) {
			t.Errorf("%d: the change shares memory with the bytes, or with another one", i)
		}
	}
}

// R5: an answer hangs neither on a capacity, nor on what was asked ahead, nor on whether what has none is nil.
func TestAnswersHangOnArgumentsAlone(t *testing.T) {
	for i, c := range slices.Concat(rightChanges(), wrongChanges()) {
		d := sparedChange(c)
		if change.Check(c) != change.Check(d) {
			t.Errorf("%d: Check", i)
		}
		a, e := change.Write(c)
		b, f := change.Write(d)
		if !bytes.Equal(a, b) || e != f {
			t.Errorf("%d: Write", i)
		}
		isReadBy(t, slices.Clip(a), "%d", i)
		isReadBy(t, spared(a), "%d, with spare room", i)
	}
}
