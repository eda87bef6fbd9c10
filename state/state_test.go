package state_test

import (
	"bytes"
	"fmt"
	"math"
	"slices"
	"strings"
	"testing"

	"waggoner/api"
	"waggoner/change"
	"waggoner/state"
)

// The numbers of the chapters, not api's, so that both are held against each other.
const (
	block     = 32
	blocks    = 64
	maxGen    = 1<<31 - 1
	maxId     = 1<<31 - 1
	maxPoints = 4
	maxStaged = 4000
	maxStage  = 1000
)

// Errors, by the chapter's numbers.
const (
	ok        api.Errno = 0
	errRange  api.Errno = 81
	errChange api.Errno = 100
	errState  api.Errno = 110
	errPoint  api.Errno = 111
	errThere  api.Errno = 112
	errFull   api.Errno = 113
)

// Kinds of changes, by the chapter's numbers.
const (
	mWrite = 1
	mZero  = 2
	mTrim  = 3
	mMake  = 4
	mDrop  = 5
	mStage = 6
	mAbort = 7
	mApply = 8
)

// far are numbers at limits, and at the ends of what an int holds, where some go round when they are added.
var far = []int{math.MinInt, math.MinInt + 1, math.MinInt + 8, math.MinInt + 64, -1 << 32, -1<<32 + 8, -1 << 31, -256, -65, -64, -9, -8, -2, -1, 0, 65, 66, 128, 256, 257, 264, 1 << 31, 1<<31 + 1, 1 << 32, 1<<32 + 1, 1<<32 + 8, 1<<32 + 64, math.MaxInt - 64, math.MaxInt - 8, math.MaxInt - 1, math.MaxInt}

// mixed are n bytes of all kinds, the same ones for the same seed.
func mixed(n int, seed uint32) []byte {
	out := make([]byte, n)
	for i := range out {
		seed = seed*1664525 + 1013904223
		out[i] = byte(seed >> 24)
	}
	return out
}

// dice throws numbers from 0 on that are less than n, the same ones for the same seed.
type dice uint32

func (d *dice) throw(n int) int {
	*d = *d*1664525 + 1013904223
	return int(*d>>8) % n
}

// of are some blocks, that have as many bytes as they are to have.
func of(lba, n, kind, gen int) api.Extent {
	x := api.Extent{Lba: lba, Len: n, Kind: kind, Gen: gen}
	if kind == 2 {
		x.Data = mixed(n*block, uint32(lba+n*100+gen*7+1))
	}
	return x
}

func write(lba, n int, seed uint32) api.Change {
	return api.Change{Kind: mWrite, Lba: lba, N: n, Data: mixed(n*block, seed)}
}

func zero(lba, n int) api.Change { return api.Change{Kind: mZero, Lba: lba, N: n} }

func trim(lba, n int) api.Change { return api.Change{Kind: mTrim, Lba: lba, N: n} }

func point(id int) api.Change { return api.Change{Kind: mMake, Id: id} }

func drop(id int) api.Change { return api.Change{Kind: mDrop, Id: id} }

func stage(n int) api.Change { return api.Change{Kind: mStage, Data: mixed(n, uint32(n))} }

func apply(id int, l ...api.Extent) api.Change {
	return api.Change{Kind: mApply, Id: id, List: l}
}

var abort = api.Change{Kind: mAbort}

// cell is a block: what it is, its generation, and its bytes.
type cell struct {
	kind, gen int
	data      string
}

// kept is a checkpoint, block by block.
type kept struct {
	id, gen int
	cells   []cell
}

// world is a state, block by block.
type world struct {
	cells     []cell
	gen, last int
	points    []kept
	staged    string
}

// first is what P11.1 asks of New.
func first(n int) world { return world{cells: make([]cell, n), gen: 1} }

// with is a world over which an extent is laid, of its own generation.
func (w world) with(x api.Extent) world {
	w.cells = slices.Clone(w.cells)
	for i := range x.Len {
		c := cell{kind: x.Kind, gen: w.gen}
		if x.Kind == 2 {
			c.data = string(x.Data[i*block : i*block+block])
		}
		w.cells[x.Lba+i] = c
	}
	return w
}

// made is P11.2's word of MMake.
func (w world) made(id int) (world, api.Errno) {
	if id <= w.last {
		return w, errThere
	}
	if len(w.points) == maxPoints || w.gen == maxGen {
		return w, errFull
	}
	w.points = append(slices.Clone(w.points), kept{id, w.gen, w.cells})
	w.last = id
	w.gen++
	return w, ok
}

// dropped is P11.2's word of MDrop.
func (w world) dropped(id int) (world, api.Errno) {
	for i, p := range w.points {
		if p.id == id {
			w.points = slices.Concat(w.points[:i], w.points[i+1:])
			return w, ok
		}
	}
	return w, errPoint
}

// applied is P11.2's word of MApply.
func (w world) applied(c api.Change) (world, api.Errno) {
	behind := w
	for _, x := range c.List {
		if x.Lba+x.Len > len(w.cells) {
			return w, errRange
		}
		behind = behind.with(x)
	}
	behind, e := behind.made(c.Id)
	if e != ok {
		return w, e
	}
	behind.staged = ""
	return behind, ok
}

// do is P11.2, word by word, of a state that may be.
func (w world) do(c api.Change) (world, api.Errno) {
	if !change.Check(c) {
		return w, errChange
	}
	switch c.Kind {
	case mMake:
		return w.made(c.Id)
	case mDrop:
		return w.dropped(c.Id)
	case mStage:
		if len(w.staged)+len(c.Data) > maxStaged {
			return w, errFull
		}
		w.staged += string(c.Data)
		return w, ok
	case mAbort:
		w.staged = ""
		return w, ok
	case mApply:
		return w.applied(c)
	}
	if c.Lba+c.N > len(w.cells) {
		return w, errRange
	}
	kind := map[int]int{mWrite: 2, mZero: 1, mTrim: 0}[c.Kind]
	return w.with(api.Extent{Lba: c.Lba, Len: c.N, Kind: kind, Data: c.Data}), ok
}

// behind is a world behind some changes, all of which are to be done.
func (w world) behind(t *testing.T, l ...api.Change) world {
	t.Helper()
	for i, c := range l {
		var e api.Errno
		if w, e = w.do(c); e != ok {
			t.Fatalf("change %d, %v: %d", i, brief(c), e)
		}
	}
	return w
}

// mapOf is the map of blocks: each extent as long as it can be.
func mapOf(cells []cell) []api.Extent {
	var l []api.Extent
	for i, c := range cells {
		if i == 0 || c.kind != cells[i-1].kind || c.gen != cells[i-1].gen {
			l = append(l, api.Extent{Lba: i, Kind: c.kind, Gen: c.gen})
		}
		x := &l[len(l)-1]
		x.Len++
		x.Data = append(x.Data, c.data...)
	}
	return l
}

// state is what a world is as a state.
func (w world) state() api.State {
	s := api.State{Blocks: len(w.cells), Gen: w.gen, Map: mapOf(w.cells), Last: w.last, Staged: []byte(w.staged)}
	for _, p := range w.points {
		s.Points = append(s.Points, api.Point{Id: p.id, Gen: p.gen, Map: mapOf(p.cells)})
	}
	return s
}

// mayStand is chapter 7's word of an extent that may be.
func mayStand(x api.Extent) bool {
	if x.Lba < 0 || x.Len < 1 || x.Lba > blocks || x.Len > blocks || x.Lba+x.Len > blocks {
		return false
	}
	if x.Gen < 0 || x.Gen > maxGen || x.Kind < 0 || x.Kind > 2 {
		return false
	}
	return x.Kind == 2 && len(x.Data) == x.Len*block || x.Kind != 2 && len(x.Data) == 0
}

// cellsOf are the blocks of a map, by chapter 8's words; none of a list that is no map of n blocks.
func cellsOf(n int, l []api.Extent) []cell {
	var cells []cell
	for _, x := range l {
		if !mayStand(x) || x.Lba != len(cells) {
			return nil
		}
		if c := len(cells) - 1; c >= 0 && cells[c].kind == x.Kind && cells[c].gen == x.Gen {
			return nil
		}
		for i := range x.Len {
			c := cell{kind: x.Kind, gen: x.Gen}
			if x.Kind == 2 {
				c.data = string(x.Data[i*block : i*block+block])
			}
			cells = append(cells, c)
		}
	}
	if len(cells) != n {
		return nil
	}
	return cells
}

// areOf tells whether there are blocks, of a generation or less each.
func areOf(cells []cell, gen int) bool {
	for _, c := range cells {
		if c.gen > gen {
			return false
		}
	}
	return len(cells) > 0
}

// areKept tells whether each block that is not above a generation is what it was.
func areKept(cells, ahead []cell, gen int) bool {
	for i, c := range cells {
		if c.gen <= gen && c != ahead[i] {
			return false
		}
	}
	return true
}

// mayBe is P11.1's Check, word by word.
func mayBe(s api.State) bool {
	cells := cellsOf(s.Blocks, s.Map)
	if !areOf(cells, s.Gen) || s.Gen < 1 || s.Gen > maxGen || len(s.Points) > maxPoints {
		return false
	}
	if s.Last < 0 || s.Last > maxId || len(s.Staged) > maxStaged {
		return false
	}
	var ahead []cell
	id, gen := 0, 0
	for i, p := range s.Points {
		if p.Id <= id || p.Id > s.Last || p.Gen <= gen || p.Gen >= s.Gen {
			return false
		}
		now := cellsOf(s.Blocks, p.Map)
		if !areOf(now, p.Gen) || i > 0 && !areKept(now, ahead, gen) {
			return false
		}
		ahead, id, gen = now, p.Id, p.Gen
	}
	return len(s.Points) == 0 || areKept(cells, ahead, gen)
}

func sameExtent(a, b api.Extent) bool {
	return a.Lba == b.Lba && a.Len == b.Len && a.Kind == b.Kind && a.Gen == b.Gen && bytes.Equal(a.Data, b.Data)
}

func sameMap(a, b []api.Extent) bool { return slices.EqualFunc(a, b, sameExtent) }

func samePoint(a, b api.Point) bool {
	return a.Id == b.Id && a.Gen == b.Gen && sameMap(a.Map, b.Map)
}

func same(a, b api.State) bool {
	return a.Blocks == b.Blocks && a.Gen == b.Gen && a.Last == b.Last && sameMap(a.Map, b.Map) &&
		slices.EqualFunc(a.Points, b.Points, samePoint) && bytes.Equal(a.Staged, b.Staged)
}

// isEmpty tells whether a state is an empty one.
func isEmpty(s api.State) bool { return same(s, api.State{}) }

// brief tells a change in few words.
func brief(c api.Change) string {
	l := make([][5]int, len(c.List))
	for i, x := range c.List {
		l[i] = [5]int{x.Lba, x.Len, x.Kind, x.Gen, len(x.Data)}
	}
	return fmt.Sprint(c.Kind, c.Lba, c.N, c.Id, len(c.Data), l)
}

// short tells a map in few words.
func short(l []api.Extent) string {
	var b strings.Builder
	for _, x := range l {
		fmt.Fprintf(&b, " %d+%d:%d/%d", x.Lba, x.Len, x.Kind, x.Gen)
		if len(x.Data) > 0 {
			fmt.Fprintf(&b, "(%d: %d..)", len(x.Data), x.Data[0])
		}
	}
	return b.String()
}

// told tells a state in few words.
func told(s api.State) string {
	var b strings.Builder
	fmt.Fprintf(&b, "{%d blocks, Gen %d, Last %d, %d wait;%s", s.Blocks, s.Gen, s.Last, len(s.Staged), short(s.Map))
	for _, p := range s.Points {
		fmt.Fprintf(&b, "; Point %d/%d:%s", p.Id, p.Gen, short(p.Map))
	}
	return b.String() + "}"
}

// isBy says if a state may be, or may not, otherwise than P11.1 asks; whether it may.
func isBy(t *testing.T, s api.State, what string, numbers ...any) bool {
	t.Helper()
	may, want := mayBe(s), errState
	if may {
		want = ok
	}
	if e := state.Check(s); e != want {
		t.Errorf(what+": %s: %d, not %d", append(numbers, told(s), e, want)...)
	}
	return may
}

// isNone says if a state may be, or if a call takes it for one.
func isNone(t *testing.T, s api.State, what string, numbers ...any) {
	t.Helper()
	if isBy(t, s, what, numbers...) {
		t.Errorf(what+": %s: may be", append(numbers, told(s))...)
	}
	if c := state.Copy(s); !isEmpty(c) {
		t.Errorf(what+": Copy: %s", append(numbers, told(c))...)
	}
	for _, c := range []api.Change{abort, zero(0, 1), point(maxId), drop(5), stage(1), apply(maxId), {}, {Kind: mZero, Lba: 64, N: 1}} {
		if d, e := state.Do(s, c); e != errState || !isEmpty(d) {
			t.Errorf(what+": Do of %s: %s, %d", append(numbers, brief(c), told(d), e)...)
		}
		if d, n, e := state.Run(s, c, abort); n != 0 || e != errState || !isEmpty(d) {
			t.Errorf(what+": Run of %s: %s, %d, %d", append(numbers, brief(c), told(d), n, e)...)
		}
	}
	if d, n, e := state.Run(s); n != 0 || e != ok || !isEmpty(d) {
		t.Errorf(what+": Run of none: %s, %d, %d", append(numbers, told(d), n, e)...)
	}
	for _, id := range []int{0, 1, 5, 8, maxId, -1} {
		if p, e := state.Point(s, id); e != errState || !samePoint(p, api.Point{}) {
			t.Errorf(what+": Point %d: %v, %d", append(numbers, id, p, e)...)
		}
	}
	if l := state.Ids(s); len(l) != 0 {
		t.Errorf(what+": Ids: %v", append(numbers, l)...)
	}
}

// isDone says if a change is done otherwise than P11.2 asks; what stands behind it.
func isDone(t *testing.T, w world, c api.Change, want api.Errno) world {
	t.Helper()
	behind, wantE := w.do(c)
	if wantE != want {
		t.Errorf("%s: by the words %d, not %d", brief(c), wantE, want)
	}
	isDoneBy(t, w, c)
	return behind
}

// isDoneBy says the same of a change whose error the words alone tell; that error.
func isDoneBy(t *testing.T, w world, c api.Change) api.Errno {
	t.Helper()
	behind, want := w.do(c)
	got, e := state.Do(w.state(), c)
	if e != want || !same(got, behind.state()) {
		t.Errorf("%s of %s: %s, %d; not %s, %d", brief(c), told(w.state()), told(got), e, told(behind.state()), want)
	}
	// P11.4: one that may be is one behind each change.
	if !mayBe(got) || state.Check(got) != ok {
		t.Errorf("%s of %s: %s: may not be", brief(c), told(w.state()), told(got))
	}
	return e
}

// plain is a world of holes alone that were never written, with checkpoints.
func plain(n, gen, last int, points ...[2]int) world {
	w := world{cells: make([]cell, n), gen: gen, last: last}
	for _, p := range points {
		w.points = append(w.points, kept{p[0], p[1], w.cells})
	}
	return w
}

// full is a world with four checkpoints, bytes that wait, and blocks of all Kinds that were written ahead of them, between them, and behind them.
func full(t *testing.T) world {
	t.Helper()
	w := first(8).behind(t, write(0, 2, 1), zero(2, 3), point(5), trim(2, 1), write(7, 1, 2), point(8), zero(0, 1), point(300), write(5, 2, 3), stage(9), point(301))
	return w.behind(t, write(3, 1, 4), trim(6, 1))
}

// last is a world whose numbers are as great as they may be.
func last(n int) world {
	w := plain(n, maxGen, maxId, [2]int{1, 1}, [2]int{maxId, maxGen - 1})
	w.staged = string(mixed(maxStaged, 1))
	return w
}

// worlds are some, of one block, of some, and of all; without checkpoints and with some.
func worlds(t *testing.T) []world {
	t.Helper()
	out := []world{full(t), plain(8, 7, 0), plain(8, maxGen, 0), plain(8, maxGen-1, 9, [2]int{4, 5}), plain(64, 5, maxId), last(1), last(8), last(64)}
	for _, n := range []int{1, 2, 7, 8, 63, 64} {
		w := first(n)
		out = append(out, w)
		w = w.behind(t, write(0, n, uint32(n)), point(3), zero(n-1, 1))
		out = append(out, w, w.behind(t, point(4), stage(1000), stage(1000), stage(1000)))
		out = append(out, w.behind(t, point(4), trim(0, n), point(5), point(258), stage(7)))
		out = append(out, w.behind(t, point(4), drop(3), point(9), write(0, 1, 9), drop(9)))
	}
	striped := first(64)
	for i := range 64 {
		striped = striped.with(of(i, 1, i%3, 0))
		if i%16 == 15 {
			striped = striped.behind(t, point(i))
		}
	}
	return append(out, striped)
}

// changes are some of all Kinds, at all edges that the chapter names, and some that may not be.
func changes() []api.Change {
	out := []api.Change{abort, {}, {Kind: 9}, {Kind: -1}, {Kind: mAbort, N: 1}, {Kind: mMake}, {Kind: mDrop}, {Kind: mStage}, {Kind: mApply}}
	for _, p := range [][2]int{{0, 1}, {0, 7}, {0, 8}, {0, 9}, {0, 63}, {0, 64}, {0, 65}, {1, 1}, {2, 3}, {6, 2}, {7, 1}, {7, 2}, {8, 1}, {62, 2}, {63, 1}, {63, 2}, {64, 1}, {0, 0}, {-1, 2}, {math.MaxInt, 1}} {
		lba, n := p[0], p[1]
		out = append(out, write(lba, n, uint32(lba+n)), zero(lba, n), trim(lba, n))
		for kind := range 3 {
			out = append(out, apply(400, of(lba, n, kind, 77)), apply(maxId, of(0, 1, 1, 3), of(lba, n, kind, 0)))
		}
	}
	for _, id := range []int{-1, 0, 1, 3, 4, 5, 6, 8, 9, 10, 258, 259, 300, 301, 302, 1 << 20, maxId - 1, maxId, maxId + 1} {
		out = append(out, point(id), drop(id), apply(id), apply(id, of(0, 1, 2, maxGen)), apply(id, of(0, 1, 2, 1), of(1, 64, 0, 1)))
	}
	for _, n := range []int{0, 1, 2, 9, 991, 993, 999, 1000, 1001} {
		out = append(out, stage(n))
	}
	return out
}

// P11.1, P11.2: the numbers of the chapter are api's.
func TestLimits(t *testing.T) {
	if api.Block != block || api.Blocks != blocks || api.MaxId != maxId || api.MaxGen != maxGen || api.MaxPoints != maxPoints || api.MaxStaged != maxStaged || api.MaxStage != maxStage {
		t.Errorf("%d, %d, %d, %d, %d, %d, %d", api.Block, api.Blocks, api.MaxId, api.MaxGen, api.MaxPoints, api.MaxStaged, api.MaxStage)
	}
	if l := []api.Errno{api.OK, api.ErrRange, api.ErrChange, api.ErrState, api.ErrPoint, api.ErrThere, api.ErrFull}; !slices.Equal(l, []api.Errno{ok, errRange, errChange, errState, errPoint, errThere, errFull}) {
		t.Errorf("%v", l)
	}
	if l := []int{api.MWrite, api.MZero, api.MTrim, api.MMake, api.MDrop, api.MStage, api.MAbort, api.MApply}; !slices.Equal(l, []int{1, 2, 3, 4, 5, 6, 7, 8}) {
		t.Errorf("%v", l)
	}
}

// P11.1: a new state of each number of blocks.
func TestNew(t *testing.T) {
	for n := 1; n <= 64; n++ {
		s, e := state.New(n)
		want := api.State{Blocks: n, Gen: 1, Map: []api.Extent{{Len: n}}}
		if e != ok || !same(s, want) {
			t.Errorf("%d: %s, %d", n, told(s), e)
		}
		if e := state.Check(s); e != ok {
			t.Errorf("%d: Check: %d", n, e)
		}
	}
}

// P11.1, R1, R2: none of numbers of blocks that there are not.
func TestNewOfNoBlocks(t *testing.T) {
	for _, n := range far {
		if s, e := state.New(n); e != errRange || !isEmpty(s) {
			t.Errorf("%d: %s, %d", n, told(s), e)
		}
	}
}

// P11.1: states that may be.
func TestCheckOfStates(t *testing.T) {
	for i, w := range worlds(t) {
		if !isBy(t, w.state(), "%d", i) {
			t.Errorf("%d: %s: may not be", i, told(w.state()))
		}
	}
}

// P11.1: generations of which blocks may be where no checkpoint tells them.
func TestCheckOfGensWithoutPoints(t *testing.T) {
	for kind := range 3 {
		for gen := range 4 {
			s := api.State{Blocks: 4, Gen: 2, Map: []api.Extent{of(0, 1, kind, gen), of(1, 3, (kind+1)%3, 2)}}
			if got := isBy(t, s, "Kind %d, Gen %d", kind, gen); got != (gen <= 2) {
				t.Errorf("Kind %d, Gen %d: %v", kind, gen, got)
			}
			s = plain(4, 5, 9, [2]int{3, 2}).state()
			s.Points[0].Map = []api.Extent{of(0, 1, kind, gen), of(1, 3, (kind+1)%3, 2)}
			s.Map = s.Points[0].Map
			if got := isBy(t, s, "Point of Kind %d, Gen %d", kind, gen); got != (gen <= 2) {
				t.Errorf("Point of Kind %d, Gen %d: %v", kind, gen, got)
			}
		}
	}
}

// fault is one thing that is broken.
type fault struct {
	what string
	mend func(s *api.State)
}

// faults are what P11.1 names, each one broken alone in the full state.
func faults() []fault {
	return []fault{
		{"Blocks of 7", func(s *api.State) { s.Blocks = 7 }},
		{"Blocks of 9", func(s *api.State) { s.Blocks = 9 }},
		{"Blocks of 0", func(s *api.State) { s.Blocks = 0 }},
		{"Blocks of 64", func(s *api.State) { s.Blocks = 64 }},
		{"Blocks below 0", func(s *api.State) { s.Blocks = -8 }},
		{"Blocks that go round", func(s *api.State) { s.Blocks = 1<<32 + 8 }},
		{"no Map", func(s *api.State) { s.Map = nil }},
		{"no extent ahead", func(s *api.State) { s.Map = s.Map[1:] }},
		{"no extent at the end", func(s *api.State) { s.Map = s.Map[:len(s.Map)-1] }},
		{"one too many", func(s *api.State) { s.Map = append(s.Map, api.Extent{Lba: 8, Len: 1}) }},
		{"a Kind", func(s *api.State) { s.Map[2].Kind = 3 }},
		{"Data that is too short", func(s *api.State) { s.Map[1].Data = s.Map[1].Data[1:] }},
		{"Data of zeros", func(s *api.State) { s.Map[0].Data = make([]byte, block) }},
		{"a Gen above", func(s *api.State) { s.Map[3].Gen = s.Gen + 1 }},
		{"a Gen below 0", func(s *api.State) { s.Map[2].Gen = -1 }},
		{"a greatest Gen", func(s *api.State) { s.Map[3].Gen = maxGen }},
		{"Gen of 0", func(s *api.State) { s.Gen = 0 }},
		{"Gen of the last Point", func(s *api.State) { s.Gen = s.Points[3].Gen }},
		{"Gen below 0", func(s *api.State) { s.Gen = -5 }},
		{"Gen above MaxGen", func(s *api.State) { s.Gen = maxGen + 1 }},
		{"five Points", func(s *api.State) {
			s.Points = append(s.Points, api.Point{Id: 302, Gen: 5, Map: s.Map})
			s.Last, s.Gen = 302, 6
		}},
		{"Ids that do not rise", func(s *api.State) { s.Points[1].Id = 5 }},
		{"Ids that fall", func(s *api.State) { s.Points[2].Id = 7 }},
		{"an Id of 0", func(s *api.State) { s.Points[0].Id = 0 }},
		{"an Id below 0", func(s *api.State) { s.Points[0].Id = -3 }},
		{"an Id above Last", func(s *api.State) { s.Points[3].Id = 302 }},
		{"Gens that do not rise", func(s *api.State) { s.Points[2].Gen = 2 }},
		{"Gens that fall", func(s *api.State) { s.Points[3].Gen = 1 }},
		{"a Gen of 0", func(s *api.State) { s.Points[0].Gen = 0 }},
		{"a Gen that is Gen", func(s *api.State) { s.Points[3].Gen = s.Gen }},
		{"a Gen above Gen", func(s *api.State) { s.Points[3].Gen = s.Gen + 1 }},
		{"a Point without Map", func(s *api.State) { s.Points[1].Map = nil }},
		{"a Point of fewer blocks", func(s *api.State) { s.Points[0].Map = s.Points[0].Map[:len(s.Points[0].Map)-1] }},
		{"a Point of more blocks", func(s *api.State) { s.Points[0].Map[2].Len = 4 }},
		{"a Point's Map that is not joined", func(s *api.State) {
			s.Points[0].Map = []api.Extent{s.Points[0].Map[0], of(2, 1, 1, 1), of(3, 2, 1, 1), of(5, 3, 0, 0)}
		}},
		{"a Map that is not joined", func(s *api.State) {
			s.Map = slices.Insert(s.Map, 1, s.Map[1])
			s.Map[1].Data = s.Map[1].Data[:0]
		}},
		{"a block of a Point of a Gen above its", func(s *api.State) { s.Points[3].Map[len(s.Points[3].Map)-2].Gen = 5 }},
		{"Last below an Id", func(s *api.State) { s.Last = 300 }},
		{"Last of 0", func(s *api.State) { s.Last = 0 }},
		{"Last below 0", func(s *api.State) { s.Last = -1 }},
		{"Last above MaxId", func(s *api.State) { s.Last = maxId + 1 }},
		{"Last that goes round", func(s *api.State) { s.Last = 1<<32 + 301 }},
		{"the greatest Last", func(s *api.State) { s.Last = math.MaxInt }},
		{"Staged of 4001", func(s *api.State) { s.Staged = make([]byte, 4001) }},
		{"Staged of 5000", func(s *api.State) { s.Staged = make([]byte, 5000) }},
		{"a byte of a Point that was kept", func(s *api.State) { s.Points[1].Map[0].Data[33]++ }},
		{"a byte of the first Point", func(s *api.State) { s.Points[0].Map[0].Data[63] ^= 128 }},
		{"a Kind of a block that was kept", func(s *api.State) { s.Points[2].Map[3].Kind = 0 }},
		{"a Gen of a block that was kept", func(s *api.State) { s.Points[2].Map[3].Gen = 0 }},
		{"all", func(s *api.State) { *s = api.State{} }},
	}
}

// P11.1 to P11.3, R2: each thing that P11.1 names, broken alone, makes a state that no call takes.
func TestCheckOfFaults(t *testing.T) {
	for _, f := range faults() {
		s := full(t).state()
		f.mend(&s)
		isNone(t, s, f.what)
	}
}

// P11.1, R1: numbers at the ends of an int, in each place.
func TestCheckOfFarNumbers(t *testing.T) {
	w := full(t)
	for _, n := range far {
		for i, put := range []func(s *api.State){
			func(s *api.State) { s.Blocks = n },
			func(s *api.State) { s.Gen = n },
			func(s *api.State) { s.Last = n },
			func(s *api.State) { s.Blocks, s.Map, s.Points = n, []api.Extent{{Len: n}}, nil },
			func(s *api.State) { s.Map[0].Lba = n },
			func(s *api.State) { s.Map[1].Len = n },
			func(s *api.State) { s.Map[2].Kind = n + 3 },
			func(s *api.State) { s.Map[3].Gen = n },
			func(s *api.State) { s.Points[0].Id = n },
			func(s *api.State) { s.Points[1].Gen = n },
			func(s *api.State) { s.Points[3].Id, s.Last = n, n },
			func(s *api.State) { s.Points[2].Map[0].Len = n },
			func(s *api.State) { s.Points[2].Map[0].Lba, s.Points[2].Map[0].Len = n, -n },
		} {
			s := w.state()
			put(&s)
			if isBy(t, s, "%d in place %d", n, i) != mayBe(s) || !mayBe(s) && !isEmpty(state.Copy(s)) {
				t.Errorf("%d in place %d", n, i)
			}
		}
	}
}

// P11.1: all small Ids and Gens of two checkpoints, all small Lasts and Gens.
func TestCheckOfAllSmallNumbers(t *testing.T) {
	may := 0
	for _, last := range []int{-1, 0, 1, 2, 3, maxId} {
		for gen := -1; gen < 5; gen++ {
			for p := range 36 {
				for q := range 36 {
					w := plain(3, gen, last, [2]int{p%6 - 1, p/6 - 1}, [2]int{q%6 - 1, q/6 - 1})
					if isBy(t, w.state(), "Points") {
						may++
					}
				}
				isBy(t, plain(3, gen, last, [2]int{p%6 - 1, p/6 - 1}).state(), "Point")
			}
			isBy(t, plain(3, gen, last).state(), "no Point")
		}
	}
	if may == 0 {
		t.Errorf("none may be")
	}
}

// smallCells are blocks of all Kinds and small generations, two of data.
func smallCells(gens int) []cell {
	var out []cell
	a, b := string(mixed(block, 1)), strings.Repeat("\x00", block)
	for gen := range gens {
		out = append(out, cell{0, gen, ""}, cell{1, gen, ""}, cell{2, gen, a}, cell{2, gen, b})
	}
	return out
}

// P11.1: any two blocks of a map against any two of the checkpoint ahead.
func TestCheckOfAllSmallMaps(t *testing.T) {
	may := 0
	for _, a := range smallCells(3) {
		for _, b := range smallCells(3) {
			for _, c := range smallCells(4) {
				for _, d := range smallCells(4) {
					w := world{cells: []cell{c, d}, gen: 3, last: 1, points: []kept{{1, 2, []cell{a, b}}}}
					if isBy(t, w.state(), "maps") {
						may++
					}
				}
			}
		}
	}
	if may == 0 {
		t.Errorf("none may be")
	}
}

// P11.1: any block of each of three checkpoints, and of the map.
func TestCheckOfAllSmallRows(t *testing.T) {
	may := 0
	for _, a := range smallCells(2) {
		for _, b := range smallCells(3) {
			for _, c := range smallCells(4) {
				for _, d := range smallCells(4) {
					w := world{cells: []cell{d}, gen: 4, last: 9, points: []kept{{2, 1, []cell{a}}, {3, 2, []cell{b}}, {9, 3, []cell{c}}}}
					if isBy(t, w.state(), "rows") {
						may++
					}
				}
			}
		}
	}
	if may == 0 {
		t.Errorf("none may be")
	}
}

// P11.1: each block of each map of a state, another one in turn.
func TestCheckOfEachBlock(t *testing.T) {
	w := full(t)
	may, not := 0, 0
	for m := range 5 {
		for at := range 8 {
			for _, c := range smallCells(7) {
				now := w
				now.points = slices.Clone(w.points)
				cells := &now.cells
				if m < 4 {
					cells = &now.points[m].cells
				}
				*cells = slices.Clone(*cells)
				(*cells)[at] = c
				if isBy(t, now.state(), "block %d of map %d", at, m) {
					may++
				} else {
					not++
				}
			}
		}
	}
	if may < 50 || not < 500 {
		t.Errorf("%d may be, %d may not", may, not)
	}
}

// P11.1: bytes of data that were kept: each one counts.
func TestCheckOfEachByte(t *testing.T) {
	w := first(64).behind(t, write(0, 64, 1), point(1), write(20, 10, 2), point(2), trim(5, 40))
	s := w.state()
	if !isBy(t, s, "whole") {
		t.Fatal(told(s))
	}
	for i := range s.Map {
		for j := range s.Map[i].Data {
			s.Map[i].Data[j]++
			if state.Check(s) != errState {
				t.Errorf("byte %d of extent %d", j, i)
			}
			s.Map[i].Data[j]--
		}
	}
	if state.Check(s) != ok {
		t.Errorf("%s", told(s))
	}
}

// P11.1: edges of how many: checkpoints, and bytes that wait.
func TestCheckOfHowMany(t *testing.T) {
	for n := range 70 {
		var l [][2]int
		for i := range n {
			l = append(l, [2]int{i + 1, i + 1})
		}
		if got := isBy(t, plain(8, n+1, n, l...).state(), "%d Points", n); got != (n <= 4) {
			t.Errorf("%d Points: %v", n, got)
		}
	}
	for _, n := range []int{0, 1, 1000, 3999, 4000, 4001, 4095, 4096, 8000, 65536, 65536 + 4000} {
		w := first(8)
		w.staged = string(mixed(n, 1))
		if got := isBy(t, w.state(), "%d wait", n); got != (n <= 4000) {
			t.Errorf("%d wait: %v", n, got)
		}
	}
}

// P11.1: a copy is the state.
func TestCopy(t *testing.T) {
	for i, w := range worlds(t) {
		if c := state.Copy(w.state()); !same(c, w.state()) {
			t.Errorf("%d: %s, not %s", i, told(c), told(w.state()))
		}
	}
	if c := state.Copy(api.State{}); !isEmpty(c) {
		t.Errorf("%s", told(c))
	}
}

// The chapter's example.
func TestExample(t *testing.T) {
	s, _ := state.New(8)
	s, n, e := state.Run(s, zero(2, 3), point(5), trim(2, 1))
	want := []api.Extent{of(0, 2, 0, 0), of(2, 1, 0, 2), of(3, 2, 1, 1), of(5, 3, 0, 0)}
	if n != 3 || e != ok || s.Gen != 2 || s.Last != 5 || s.Blocks != 8 || !sameMap(s.Map, want) || len(s.Staged) != 0 {
		t.Errorf("%s, %d, %d", told(s), n, e)
	}
	p, e := state.Point(s, 5)
	if e != ok || !samePoint(p, api.Point{Id: 5, Gen: 1, Map: []api.Extent{of(0, 2, 0, 0), of(2, 3, 1, 1), of(5, 3, 0, 0)}}) {
		t.Errorf("%v, %d", p, e)
	}
	if l := state.Ids(s); !slices.Equal(l, []int{5}) {
		t.Errorf("%v", l)
	}
}

// P11.2, P11.4: all changes of all states.
func TestDoOfAll(t *testing.T) {
	seen := map[api.Errno]int{}
	for _, w := range worlds(t) {
		for _, c := range changes() {
			seen[isDoneBy(t, w, c)]++
		}
	}
	for _, e := range []api.Errno{ok, errRange, errChange, errPoint, errThere, errFull} {
		if seen[e] < 50 {
			t.Errorf("error %d: %d times", e, seen[e])
		}
	}
}

// P11.2: blocks that end at Blocks, and one behind it, for each number of blocks.
func TestDoOfBlocksAtTheEnd(t *testing.T) {
	for n := 1; n <= 64; n++ {
		w := first(n)
		for size := 1; size <= n; size++ {
			lba := n - size
			w = isDone(t, w, write(lba, size, uint32(size)), ok)
			isDone(t, w, zero(lba, size), ok)
			isDone(t, w, trim(lba, size), ok)
			if n < 64 {
				isDone(t, w, write(lba+1, size, 1), errRange)
				isDone(t, w, zero(lba+1, size), errRange)
				isDone(t, w, trim(lba, size+1), errRange)
			}
		}
		if n < 64 {
			isDone(t, w, trim(n, 64-n), errRange)
			isDone(t, w, zero(63, 1), errRange)
		}
	}
}

// P11.2: each Kind of blocks over each Kind, of an older generation and of the same.
func TestDoOfBlocksOverBlocks(t *testing.T) {
	all := func(lba, n int, seed uint32) []api.Change {
		return []api.Change{write(lba, n, seed), zero(lba, n), trim(lba, n)}
	}
	for i, under := range all(0, 8, 1) {
		for j, over := range all(2, 3, 2) {
			now := isDone(t, first(8).behind(t, under), over, ok)
			wantKinds := []int{2, 1, 0}
			if now.cells[1].kind != wantKinds[i] || now.cells[2].kind != wantKinds[j] || now.cells[2].gen != 1 || now.cells[5].gen != 1 {
				t.Errorf("%d over %d: %v", j, i, now.cells)
			}
			then := isDone(t, first(8).behind(t, under, point(1)), over, ok)
			if then.cells[2].gen != 2 || then.cells[5].gen != 1 || then.points[0].cells[2].kind != wantKinds[i] {
				t.Errorf("%d over %d behind a checkpoint: %v", j, i, then.cells)
			}
		}
	}
}

// P11.2: what is written is of the state's generation, also if that is the greatest.
func TestDoOfBlocksAtMaxGen(t *testing.T) {
	for _, c := range []api.Change{write(2, 2, 1), zero(2, 2), trim(2, 2)} {
		got, e := state.Do(plain(8, maxGen, 3).state(), c)
		if e != ok || len(got.Map) != 3 || got.Map[1].Gen != maxGen || got.Gen != maxGen {
			t.Errorf("%s: %s, %d", brief(c), told(got), e)
		}
	}
}

// P11.2: MMake at, below and above Last; with three checkpoints and with four; at the greatest generation.
func TestDoOfMake(t *testing.T) {
	w := first(8).behind(t, write(1, 2, 1), point(5), zero(2, 2), point(9), stage(3))
	for _, id := range []int{1, 4, 5, 6, 8, 9} {
		isDone(t, w, point(id), errThere)
	}
	for _, id := range []int{10, 11, 1 << 20, maxId - 1, maxId} {
		now := isDone(t, w, point(id), ok)
		if now.last != id || now.gen != 4 || len(now.points) != 3 || now.points[2].gen != 3 || now.staged != w.staged {
			t.Errorf("%d: %s", id, told(now.state()))
		}
		isDone(t, now, point(id), errThere)
	}
	three := isDone(t, w, point(10), ok)
	four := isDone(t, three, point(11), ok)
	isDone(t, four, point(12), errFull)
	isDone(t, four, point(11), errThere)
	isDone(t, isDone(t, four, drop(9), ok), point(12), ok)
	isDone(t, isDone(t, four, drop(11), ok), point(11), errThere)
	isDone(t, plain(8, maxGen, 3), point(4), errFull)
	isDone(t, plain(8, maxGen, 3), point(3), errThere)
	isDone(t, plain(8, maxGen-1, 3), point(4), ok)
	isDone(t, plain(8, 1, maxId), point(maxId), errThere)
	isDone(t, plain(8, maxGen, 9, [2]int{1, 1}, [2]int{2, 2}, [2]int{3, 3}, [2]int{9, 4}), point(10), errFull)
	isDone(t, plain(8, maxGen, 9, [2]int{1, 1}, [2]int{2, 2}, [2]int{3, 3}, [2]int{9, 4}), point(9), errThere)
}

// P11.2: MDrop of one that is there, that was there, and that never was.
func TestDoOfDrop(t *testing.T) {
	w := full(t)
	for i, id := range []int{5, 8, 300, 301} {
		now := isDone(t, w, drop(id), ok)
		if len(now.points) != 3 || now.last != 301 || now.gen != w.gen || now.points[min(i, 2)].id == id {
			t.Errorf("%d: %s", id, told(now.state()))
		}
		isDone(t, now, drop(id), errPoint)
		isDone(t, now, point(id), errThere)
	}
	for _, id := range []int{1, 4, 6, 7, 9, 299, 302, maxId} {
		isDone(t, w, drop(id), errPoint)
	}
	isDone(t, first(8), drop(1), errPoint)
	none := w.behind(t, drop(8), drop(301), drop(5), drop(300))
	isDone(t, none, drop(5), errPoint)
	isDone(t, none, point(302), ok)
}

// P11.2, P11.4: checkpoints dropped in each order leave states that may be.
func TestDropsInEachOrder(t *testing.T) {
	ids := []int{5, 8, 300, 301}
	for i := range 256 {
		w := full(t)
		left := slices.Clone(ids)
		for _, n := range []int{i % 4, i / 4 % 4, i / 16 % 4, i / 64} {
			want := errPoint
			if slices.Contains(left, ids[n]) {
				want = ok
			}
			w = isDone(t, w, drop(ids[n]), want)
			left = slices.DeleteFunc(left, func(id int) bool { return id == ids[n] })
			if l := state.Ids(w.state()); !slices.Equal(l, left) {
				t.Errorf("%d: %v, not %v", i, l, left)
			}
		}
	}
}

// P11.2: bytes wait one behind the other, up to 4000, and are let go.
func TestDoOfStage(t *testing.T) {
	w := full(t)
	w.staged = ""
	for _, n := range []int{1, 2, 9, 1000, 988, 1000} {
		ahead := w.staged
		w = isDone(t, w, stage(n), ok)
		if w.staged != ahead+string(mixed(n, uint32(n))) {
			t.Errorf("%d: %d wait", n, len(w.staged))
		}
	}
	// 3000 wait.
	isDone(t, w, stage(1000), ok)
	for _, n := range []int{1, 2, 500, 999, 1000} {
		w.staged = string(mixed(4000-n, 5))
		isDone(t, isDone(t, w, stage(n), ok), stage(1), errFull)
		w.staged = string(mixed(4001-n, 5))
		isDone(t, w, stage(n), errFull)
		now := isDone(t, w, abort, ok)
		if now.staged != "" {
			t.Errorf("%d wait", len(now.staged))
		}
		isDone(t, now, stage(n), ok)
	}
	isDone(t, w, stage(1001), errChange)
	isDone(t, first(8), abort, ok)
}

// P11.2: extents are laid with the state's generation in place of their own, a checkpoint is made, and nothing waits.
func TestDoOfApply(t *testing.T) {
	w := full(t).behind(t, drop(5))
	now := isDone(t, w, apply(400, of(0, 2, 2, 77), of(2, 1, 1, 0), of(4, 1, 0, maxGen), of(7, 1, 2, 5)), ok)
	got, e := state.Do(w.state(), apply(400, of(0, 2, 2, 77), of(2, 1, 1, 0), of(4, 1, 0, maxGen), of(7, 1, 2, 5)))
	if e != ok || got.Gen != 6 || got.Last != 400 || len(got.Staged) != 0 || len(got.Points) != 4 || got.Points[3].Gen != 5 || got.Points[3].Id != 400 {
		t.Errorf("%s, %d", told(got), e)
	}
	if !sameMap(got.Map, got.Points[3].Map) || got.Map[0].Gen != 5 || got.Map[1].Gen != 5 || !bytes.Equal(got.Map[0].Data, of(0, 2, 2, 77).Data) {
		t.Errorf("%s", told(got))
	}
	if len(w.staged) == 0 || now.staged != "" {
		t.Errorf("%d wait, then %d", len(w.staged), len(now.staged))
	}
	isDone(t, w, apply(400), ok)
	isDone(t, w, apply(400, of(0, 8, 2, 0)), ok)
	isDone(t, w, apply(400, of(3, 5, 1, 0)), ok)
	isDone(t, w, apply(400, of(3, 2, 1, 1), of(5, 2, 1, 2), of(7, 1, 1, 3)), ok)
	isDone(t, first(64), apply(1, of(0, 64, 2, 0)), ok)
	isDone(t, first(64), apply(maxId, of(63, 1, 1, 0)), ok)
}

// P11.2: MApply that is not done: it leaves the map as it was, and what waits.
func TestDoOfApplyThatIsNotDone(t *testing.T) {
	w := full(t)
	three := w.behind(t, drop(5))
	for kind := range 3 {
		isDone(t, three, apply(400, of(7, 2, kind, 1)), errRange)
		isDone(t, three, apply(400, of(8, 1, kind, 1)), errRange)
		isDone(t, three, apply(400, of(0, 1, 1, 1), of(7, 1, kind, 2), of(8, 1, kind, 1)), errRange)
		isDone(t, three, apply(400, of(0, 9, kind, 1)), errRange)
		isDone(t, three, apply(400, of(63, 1, kind, 1)), errRange)
		isDone(t, three, apply(301, of(7, 1, kind, 1)), errThere)
		isDone(t, three, apply(5, of(7, 1, kind, 1)), errThere)
		isDone(t, w, apply(400, of(7, 1, kind, 1)), errFull)
	}
	isDone(t, w, apply(400), errFull)
	isDone(t, plain(8, maxGen, 3), apply(4, of(0, 1, 1, 1)), errFull)
	isDone(t, plain(8, maxGen-1, 3), apply(4, of(0, 1, 1, 1)), ok)
}

// P11.2, R2: which error is told where several could be.
func TestDoOfSeveralFaults(t *testing.T) {
	four := full(t)
	isDone(t, four, apply(301, of(7, 2, 1, 1)), errRange)
	isDone(t, four, apply(400, of(7, 2, 1, 1)), errRange)
	isDone(t, four, apply(301), errThere)
	isDone(t, four, point(301), errThere)
	isDone(t, plain(8, maxGen, 3), apply(3, of(8, 1, 1, 1)), errRange)
	isDone(t, plain(8, maxGen, 3), apply(3), errThere)
	// Changes that may not be, and that could not be done.
	isDone(t, four, api.Change{Kind: mApply, Id: 301, List: []api.Extent{of(9, 1, 1, 1), of(9, 1, 1, 1)}}, errChange)
	isDone(t, four, api.Change{Kind: mZero, Lba: 60, N: 5}, errChange)
	isDone(t, four, api.Change{Kind: mDrop, Id: 0}, errChange)
	isDone(t, four, api.Change{Kind: mMake, Id: 301, N: 1}, errChange)
	wrong := four.state()
	wrong.Last = 300
	if s, e := state.Do(wrong, api.Change{}); e != errState || !isEmpty(s) {
		t.Errorf("%s, %d", told(s), e)
	}
}

// isRun says if changes are done otherwise than P11.3 asks.
func isRun(t *testing.T, w world, wantN int, wantE api.Errno, l ...api.Change) {
	t.Helper()
	behind := w
	n, want := 0, ok
	for _, c := range l {
		if behind, want = behind.do(c); want != ok {
			break
		}
		n++
	}
	if n != wantN || want != wantE {
		t.Errorf("by the words %d, %d; not %d, %d", n, want, wantN, wantE)
	}
	got, m, e := state.Run(w.state(), l...)
	if m != n || e != want || !same(got, behind.state()) {
		t.Errorf("%s, %d, %d; not %s, %d, %d", told(got), m, e, told(behind.state()), n, want)
	}
}

// P11.3: Run of none, and of several, failing at the first, in the middle, at the last, and not at all.
func TestRun(t *testing.T) {
	for _, w := range worlds(t) {
		isRun(t, w, 0, ok)
		isRun(t, w, 1, ok, abort)
		isRun(t, w, 3, ok, zero(0, 1), abort, trim(0, 1))
		isRun(t, w, 0, errChange, api.Change{}, abort)
		isRun(t, w, 1, errChange, abort, point(0), abort)
		isRun(t, w, 2, errPoint, abort, stage(1000), drop(77))
	}
	w := first(8)
	isRun(t, w, 0, errRange, zero(7, 2), point(1), point(2))
	isRun(t, w, 2, errThere, point(4), zero(7, 1), point(4), point(5))
	isRun(t, w, 4, errFull, point(4), point(5), point(6), point(7), point(8), drop(4))
	isRun(t, w, 6, ok, point(4), point(5), point(6), point(7), drop(6), point(8))
	isRun(t, w, 3, errPoint, point(4), write(0, 8, 1), drop(4), drop(4))
	isRun(t, w, 4, errFull, stage(1000), stage(1000), stage(1000), stage(1000), stage(1))
	isRun(t, w, 5, errThere, stage(1000), apply(1, of(0, 1, 2, 5)), stage(10), trim(0, 1), apply(2), apply(2))
	many := slices.Repeat([]api.Change{zero(2, 3), trim(3, 1)}, 500)
	isRun(t, w, 1000, ok, many...)
	isRun(t, w, 1000, errRange, append(many, zero(8, 1))...)
}

// P11.3: each checkpoint, and those that there are not.
func TestPoint(t *testing.T) {
	for _, w := range worlds(t) {
		s := w.state()
		there := map[int]api.Point{}
		for _, p := range s.Points {
			there[p.Id] = p
		}
		ids := []int{-1, 0, 1, 2, 3, 4, 5, 6, 8, 9, 258, 299, 300, 301, 302, maxId - 1, maxId, maxId + 1, math.MinInt, math.MaxInt}
		for id := range there {
			ids = append(ids, id, id+1<<32, id-1<<32)
		}
		for _, id := range ids {
			want, is := there[id]
			wantE := errPoint
			if is {
				wantE = ok
			}
			if p, e := state.Point(s, id); e != wantE || !samePoint(p, want) {
				t.Errorf("%d of %s: %v, %d", id, told(s), p, e)
			}
		}
	}
}

// P11.3: the numbers of all checkpoints, in order.
func TestIds(t *testing.T) {
	w := full(t)
	for i, want := range [][]int{{5, 8, 300, 301}, {8, 300, 301}, {8, 301}, {8}, {}} {
		if l := state.Ids(w.state()); !slices.Equal(l, want) {
			t.Errorf("%d: %v", i, l)
		}
		if len(want) > 0 {
			w = w.behind(t, drop([]int{5, 300, 301, 8}[i]))
		}
	}
	for _, w := range worlds(t) {
		var want []int
		for _, p := range w.points {
			want = append(want, p.id)
		}
		if l := state.Ids(w.state()); !slices.Equal(l, want) {
			t.Errorf("%v, not %v", l, want)
		}
	}
}

// thrown is a change by dice, that often may be done with a state.
func thrown(d *dice, w world) api.Change {
	n := len(w.cells)
	lba := d.throw(n)
	size := 1 + d.throw(min(n-lba+1, 64-lba))
	switch d.throw(12) {
	case 0, 1:
		return write(lba, size, uint32(d.throw(9)))
	case 2, 3:
		return zero(lba, size)
	case 4, 5:
		return trim(lba, size)
	case 6:
		return point(w.last + d.throw(4))
	case 7, 8:
		if len(w.points) > 0 {
			return drop(w.points[d.throw(len(w.points))].id + d.throw(9)/8)
		}
		return drop(1 + w.last)
	case 9:
		return stage(1 + d.throw(1000))
	case 10:
		if d.throw(3) > 0 {
			return api.Change{Kind: d.throw(10), Lba: lba, N: size, Id: d.throw(3)}
		}
		return abort
	}
	var l []api.Extent
	for at := d.throw(3); at < n && len(l) < 5; at += d.throw(4) {
		x := of(at, 1+d.throw(min(4, 64-at)), d.throw(3), d.throw(9))
		at += x.Len
		l = append(l, x)
	}
	return apply(w.last+1+d.throw(2), l...)
}

// P11.2, P11.4: long rows of changes by dice: each state may be, what a checkpoint has stays until it is dropped, and what was written behind it has a greater Gen.
func TestLongRows(t *testing.T) {
	seen := map[api.Errno]int{}
	for seed := range 60 {
		d := dice(seed)
		w := first(1 + d.throw(64)>>(2*d.throw(3)))
		s, _ := state.New(len(w.cells))
		points := map[int]api.Point{}
		for range 150 {
			c := thrown(&d, w)
			behind, want := w.do(c)
			now, e := state.Do(s, c)
			seen[e]++
			if e != want || !same(now, behind.state()) || !mayBe(now) || state.Check(now) != ok {
				t.Fatalf("%d: %s of %s: %s, %d, not %d", seed, brief(c), told(s), told(now), e, want)
			}
			for _, p := range now.Points {
				if old, was := points[p.Id]; was && !samePoint(old, p) {
					t.Fatalf("%d: checkpoint %d: %v, that was %v", seed, p.Id, p, old)
				} else if !was {
					points[p.Id] = state.Copy(now).Points[len(now.Points)-1]
				}
			}
			w, s = behind, now
		}
	}
	for _, e := range []api.Errno{ok, errRange, errChange, errPoint, errThere, errFull} {
		if seen[e] < 20 {
			t.Errorf("error %d: %d times", e, seen[e])
		}
	}
}

// P11.4: what is written behind a checkpoint has a greater generation than it, and what is not has none.
func TestGenTellsWhatWasWritten(t *testing.T) {
	d := dice(11)
	for range 300 {
		w := first(1 + d.throw(20))
		for range 6 {
			if c := thrown(&d, w); change.Check(c) {
				w, _ = w.do(c)
			}
		}
		w, e := w.behind(t, abort).made(w.last + 1)
		if e != ok {
			continue
		}
		s := w.state()
		p := s.Points[len(s.Points)-1]
		written := make([]bool, len(w.cells))
		for range 5 {
			c := []api.Change{write(0, 1, 3), zero(0, 1), trim(0, 1)}[d.throw(3)]
			c.Lba = d.throw(len(w.cells))
			written[c.Lba] = true
			s, _ = state.Do(s, c)
		}
		for i, c := range cellsOf(s.Blocks, s.Map) {
			if written[i] != (c.gen > p.Gen) {
				t.Errorf("block %d of %s: written behind %d: %v", i, told(s), p.Id, written[i])
			}
		}
	}
}

// room is the memory of one list, its spare room included.
type room struct {
	name  string
	tell  func() string
	spoil func()
}

// roomOf is a list's; of each member it tells what stands in the list itself.
func roomOf[T any](name string, l []T, tell func(T) string, wrong T) room {
	all := l[:cap(l)]
	return room{name, func() string {
		var b strings.Builder
		for _, x := range all {
			b.WriteString(tell(x) + " ")
		}
		return b.String()
	}, func() {
		for i := range all {
			all[i] = wrong
		}
	}}
}

func bytesRoom(name string, b []byte) room {
	r := roomOf(name, b, func(byte) string { return "" }, 0xdb)
	r.tell = func() string { return string(b[:cap(b)]) }
	return r
}

func mapRooms(name string, l []api.Extent) []room {
	tell := func(x api.Extent) string { return fmt.Sprint(x.Lba, x.Len, x.Kind, x.Gen, len(x.Data)) }
	out := []room{roomOf(name, l, tell, api.Extent{Lba: -7, Len: -7, Kind: -7, Gen: -7})}
	for i, x := range l {
		out = append(out, bytesRoom(fmt.Sprint(name, ".Data ", i), x.Data))
	}
	return out
}

func pointRooms(name string, p api.Point) []room { return mapRooms(name+".Map", p.Map) }

func stateRooms(name string, s api.State) []room {
	tell := func(p api.Point) string { return fmt.Sprint(p.Id, p.Gen, len(p.Map)) }
	out := []room{bytesRoom(name+".Staged", s.Staged), roomOf(name+".Points", s.Points, tell, api.Point{Id: -7, Gen: -7})}
	out = append(out, mapRooms(name+".Map", s.Map)...)
	for i, p := range s.Points {
		out = append(out, pointRooms(fmt.Sprint(name, ".Points ", i), p)...)
	}
	return out
}

func changeRooms(name string, l []api.Change) []room {
	out := []room{roomOf(name, l, brief, api.Change{Kind: -7})}
	for i, c := range l {
		out = append(out, bytesRoom(fmt.Sprint(name, ".Data ", i), c.Data))
		out = append(out, mapRooms(fmt.Sprint(name, ".List ", i), c.List)...)
	}
	return out
}

// areApart says if what is written to one of some lists is seen in another one. It spoils all.
func areApart(t *testing.T, what string, l []room) {
	t.Helper()
	for i, r := range l {
		var ahead []string
		for _, o := range l[i+1:] {
			ahead = append(ahead, o.tell())
		}
		r.spoil()
		for j, o := range l[i+1:] {
			if o.tell() != ahead[j] {
				t.Errorf("%s: %s shares memory with %s", what, r.name, o.name)
			}
		}
	}
}

// roomy is a list in memory of its own, with spare room, in which stands what may not be written over.
func roomy[T any](l []T, spare T) []T {
	out := slices.Concat(l, []T{spare, spare, spare})
	return out[:len(l)]
}

func roomyMap(l []api.Extent) []api.Extent {
	out := roomy(l, api.Extent{Lba: 9, Len: 9, Kind: 9, Gen: 9})
	for i := range out {
		out[i].Data = roomy(out[i].Data, 0xa5)
	}
	return out
}

// roomyState is a state whose lists all have spare room.
func roomyState(s api.State) api.State {
	s.Map = roomyMap(s.Map)
	s.Points = roomy(s.Points, api.Point{Id: 99, Gen: 99})
	for i := range s.Points {
		s.Points[i].Map = roomyMap(s.Points[i].Map)
	}
	s.Staged = roomy(s.Staged, 0xa5)
	return s
}

func roomyChanges(l []api.Change) []api.Change {
	out := roomy(l, abort)
	for i := range out {
		out[i].Data = roomy(out[i].Data, 0xa5)
		out[i].List = roomyMap(out[i].List)
	}
	return out
}

// answers are all that the calls answer of a state and changes, each by its lists.
func answers(s api.State, l []api.Change) map[string][]room {
	out := map[string][]room{"Copy": stateRooms("Copy", state.Copy(s))}
	state.Check(s)
	for i, c := range l {
		d, _ := state.Do(s, c)
		what := fmt.Sprint("Do of ", brief(c), " ", i)
		out[what] = stateRooms(what, d)
	}
	r, _, _ := state.Run(s, l...)
	out["Run"] = stateRooms("Run", r)
	r, _, _ = state.Run(s)
	out["Run of none"] = stateRooms("Run of none", r)
	for _, id := range append(state.Ids(s), maxId-5) {
		p, _ := state.Point(s, id)
		what := fmt.Sprint("Point ", id)
		out[what] = pointRooms(what, p)
	}
	out["Ids"] = []room{roomOf("Ids", state.Ids(s), func(n int) string { return fmt.Sprint(n) }, -7)}
	return out
}

// some are changes that reach each Kind, and fail in each way.
func some() []api.Change {
	return []api.Change{write(0, 1, 1), zero(0, 1), trim(0, 1), stage(20), drop(5), drop(3), point(500), point(1), apply(600, of(0, 1, 2, 3)), apply(1, of(0, 1, 2, 3)), apply(600, of(0, 64, 2, 3)), abort, {}, write(0, 64, 2), stage(1000)}
}

// R4: what is handed in is left as it was, its spare room included.
func TestArgumentsAreLeft(t *testing.T) {
	for _, w := range worlds(t) {
		s, l := roomyState(w.state()), roomyChanges(some())
		rooms := append(stateRooms("State", s), changeRooms("Changes", l)...)
		var ahead []string
		for _, r := range rooms {
			ahead = append(ahead, r.tell())
		}
		answers(s, l)
		wrong := s
		wrong.Gen = 0
		answers(wrong, l)
		for i, r := range rooms {
			if r.tell() != ahead[i] {
				t.Errorf("%s of %s: %s, that was %s", r.name, told(w.state()), r.tell(), ahead[i])
			}
		}
	}
}

// R4, P11.1: no two lists of an answer, and none of an answer and an argument, share any memory.
func TestAnswersShareNothing(t *testing.T) {
	for _, w := range []world{full(t), full(t).behind(t, drop(8)), last(8), first(1), first(64).behind(t, write(0, 64, 1), point(3), stage(5))} {
		for what := range answers(w.state(), some()) {
			s, l := roomyState(w.state()), roomyChanges(some())
			rooms := append(answers(s, l)[what], stateRooms("State", s)...)
			areApart(t, what, append(rooms, changeRooms("Changes", l)...))
		}
	}
	for _, n := range []int{1, 8, 64} {
		s, _ := state.New(n)
		areApart(t, "New", stateRooms("New", s))
		if s, e := state.New(n); e != ok || state.Check(s) != ok {
			t.Errorf("%d: %s, %d", n, told(s), e)
		}
	}
}

// R4: an answer is not kept: what is written to it is not seen in the next one.
func TestAnswersAreNotKept(t *testing.T) {
	w := full(t)
	for range 2 {
		s := w.state()
		d, _ := state.Do(s, write(0, 1, 7))
		want, _ := w.do(write(0, 1, 7))
		if !same(d, want.state()) {
			t.Errorf("%s", told(d))
		}
		areApart(t, "Do", stateRooms("Do", d))
	}
}

// R5: what is answered hangs on no capacity.
func TestAnswersHangOnArgumentsAlone(t *testing.T) {
	for _, w := range worlds(t) {
		for _, c := range changes() {
			a, e := state.Do(w.state(), c)
			b, f := state.Do(roomyState(w.state()), roomyChanges([]api.Change{c})[0])
			if e != f || !same(a, b) {
				t.Errorf("%s: %s, %d; %s, %d", brief(c), told(a), e, told(b), f)
			}
		}
	}
	s := first(8).state()
	s.Points, s.Staged, s.Map[0].Data = []api.Point{}, []byte{}, []byte{}
	if a, e := state.Do(s, zero(0, 1)); e != ok || !same(a, first(8).behind(t, zero(0, 1)).state()) {
		t.Errorf("%s, %d", told(a), e)
	}
}
