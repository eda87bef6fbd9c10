package zone_test

import (
	"bytes"
	"math"
	"slices"
	"testing"

	"waggoner/api"
	"waggoner/zone"
)

// edges are numbers at which something else begins: at 0, at small sizes, at MaxZone, at MaxResets, and at an int's ends.
var edges = []int{
	math.MinInt, math.MinInt + 1, -1 << 32, -1 << 31, -5, -2, -1, 0, 1, 2, 3, 4, 5, 6, 7,
	1<<20 - 1, 1 << 20, 1<<20 + 1, 1<<30 - 1, 1 << 30, 1<<30 + 1, 1<<31 - 1, 1 << 31, 1 << 32, 1<<32 + 4, math.MaxInt - 1, math.MaxInt,
}

// states are all that a zone may have, and some that are none.
var states = []int{0, 1, 2, 3, 4, 5, -1, -2, 7, 256, 257, 1 << 32, 1<<32 + 1, math.MinInt, math.MaxInt}

// rising are bytes 1, 2, 3 and on.
func rising(n int) []byte {
	out := make([]byte, n)
	for i := range out {
		out[i] = byte(i + 1)
	}
	return out
}

// handMade are zones that may be, of sizes up to 5, and such as may not.
func handMade() []api.Zone {
	var out []api.Zone
	for _, state := range states {
		for n := range 7 {
			for _, lasts := range []int{math.MinInt, -1, 0, 1, n - 1, n, n + 1, math.MaxInt} {
				for _, resets := range []int{math.MinInt, -1, 0, 1, 1<<30 - 1, 1 << 30, 1<<30 + 1, math.MaxInt} {
					out = append(out, api.Zone{State: state, Resets: resets, Data: rising(n), Lasts: lasts})
				}
			}
		}
	}
	return append(out, api.Zone{}, api.Zone{State: api.ZFull}, api.Zone{State: api.ZOpen})
}

// same tells whether two zones are alike.
func same(a, b api.Zone) bool {
	return a.State == b.State && a.Resets == b.Resets && a.Lasts == b.Lasts && bytes.Equal(a.Data, b.Data)
}

// mayBe is P3.1's Check, word by word.
func mayBe(z api.Zone, size int) bool {
	if size < 1 || size > 1048576 {
		return false
	}
	if z.State < 0 || z.State > 3 {
		return false
	}
	if z.Resets < 0 || z.Resets > 1073741824 {
		return false
	}
	if len(z.Data) > size {
		return false
	}
	if z.Lasts < 0 || z.Lasts > len(z.Data) {
		return false
	}
	if z.State == 0 && len(z.Data) != 0 {
		return false
	}
	if (z.State == 1 || z.State == 2) && (len(z.Data) == 0 || len(z.Data) >= size) {
		return false
	}
	return true
}

// room is P3.1's Room.
func room(z api.Zone, size int) int {
	if !mayBe(z, size) || z.State == 3 {
		return 0
	}
	return size - len(z.Data)
}

// appended is P3.2's Append.
func appended(z api.Zone, size int, b []byte) (api.Zone, api.Errno) {
	if !mayBe(z, size) || len(b) == 0 {
		return z, api.ErrArg
	}
	if len(b) > room(z, size) {
		return z, api.ErrZone
	}
	z.Data = slices.Concat(z.Data, b)
	z.State = 1
	if len(z.Data) == size {
		z.State = 3
	}
	return z, api.OK
}

// reset is P3.2's Reset.
func reset(z api.Zone) (api.Zone, api.Errno) {
	if z.State < 0 || z.State > 3 || z.Resets >= 1073741824 || z.Resets < 0 {
		return z, api.ErrZone
	}
	return api.Zone{Resets: z.Resets + 1}, api.OK
}

// finished is P3.2's Finish.
func finished(z api.Zone) (api.Zone, api.Errno) {
	if z.State != 1 && z.State != 2 {
		return z, api.ErrZone
	}
	z.State = 3
	return z, api.OK
}

// closed is P3.2's Close.
func closed(z api.Zone) (api.Zone, api.Errno) {
	if z.State != 1 {
		return z, api.ErrZone
	}
	z.State = 2
	return z, api.OK
}

// crashed is P3.3.
func crashed(z api.Zone, size, keep int) api.Zone {
	if !mayBe(z, size) {
		return z
	}
	n := keep
	if n < z.Lasts {
		n = z.Lasts
	}
	if n > len(z.Data) {
		n = len(z.Data)
	}
	out := api.Zone{State: 2, Resets: z.Resets, Data: z.Data[:n], Lasts: n}
	if n == size || z.State == 3 {
		out.State = 3
	}
	if n == 0 {
		out.State = 0
	}
	return out
}

// withSpare is a list of these members, whose spare room is filled by 0xaa.
func withSpare(members []byte) []byte {
	all := append(slices.Clone(members), bytes.Repeat([]byte{0xaa}, 16)...)
	return all[:len(members)]
}

// fill writes over a list, its spare room too.
func fill(l []byte, x byte) {
	l = l[:cap(l)]
	for i := range l {
		l[i] = x
	}
}

// whole is a copy of a list and its spare room.
func whole(l []byte) []byte { return slices.Clone(l[:cap(l)]) }

// call is one of a zone's, with what it asks for in it.
type call struct {
	name string
	do   func(z api.Zone) (api.Zone, api.Errno)
}

// calls are all that answer a zone, for zones of four bytes.
func calls(b []byte, keep int) []call {
	return []call{
		{"Append", func(z api.Zone) (api.Zone, api.Errno) { return zone.Append(z, 4, b...) }},
		{"Reset", zone.Reset},
		{"Finish", zone.Finish},
		{"Close", zone.Close},
		{"Flush", func(z api.Zone) (api.Zone, api.Errno) { return zone.Flush(z), api.OK }},
		{"Crash", func(z api.Zone) (api.Zone, api.Errno) { return zone.Crash(z, 4, keep), api.OK }},
	}
}

// P3.2: the chapter's example.
func TestExample(t *testing.T) {
	open, e := zone.Append(api.Zone{}, 4, 1, 2, 3)
	if e != api.OK || !same(open, api.Zone{State: api.ZOpen, Data: []byte{1, 2, 3}}) {
		t.Fatalf("%+v, %d", open, e)
	}
	if z, e := zone.Append(open, 4, 4, 5); e != api.ErrZone || !same(z, open) {
		t.Errorf("%+v, %d", z, e)
	}
}

// P3.1: each thing that a zone must have, alone.
func TestCheckOfEachPart(t *testing.T) {
	for _, c := range []struct {
		what string
		z    api.Zone
		size int
		want bool
	}{
		{"empty", api.Zone{}, 4, true},
		{"empty, reset", api.Zone{Resets: 9}, 4, true},
		{"open", api.Zone{State: api.ZOpen, Data: rising(3)}, 4, true},
		{"open, some of it lasts", api.Zone{State: api.ZOpen, Data: rising(3), Lasts: 2}, 4, true},
		{"closed", api.Zone{State: api.ZClosed, Data: rising(1), Lasts: 1}, 4, true},
		{"full", api.Zone{State: api.ZFull, Data: rising(4)}, 4, true},
		{"full, finished early", api.Zone{State: api.ZFull, Data: rising(1)}, 4, true},
		{"full, without bytes", api.Zone{State: api.ZFull}, 4, true},
		{"of one byte, empty", api.Zone{}, 1, true},
		{"of one byte, full", api.Zone{State: api.ZFull, Data: rising(1)}, 1, true},
		{"of one byte, open", api.Zone{State: api.ZOpen, Data: rising(1)}, 1, false},
		{"of size 0", api.Zone{}, 0, false},
		{"of size 0, full", api.Zone{State: api.ZFull}, 0, false},
		{"of size -1", api.Zone{}, -1, false},
		{"the greatest", api.Zone{}, 1 << 20, true},
		{"too great", api.Zone{}, 1<<20 + 1, false},
		{"state 4", api.Zone{State: 4}, 4, false},
		{"state -1", api.Zone{State: -1}, 4, false},
		{"state 4, with bytes", api.Zone{State: 4, Data: rising(2)}, 4, false},
		{"Resets below 0", api.Zone{Resets: -1}, 4, false},
		{"Resets at most", api.Zone{Resets: 1 << 30}, 4, true},
		{"Resets beyond", api.Zone{Resets: 1<<30 + 1}, 4, false},
		{"too many bytes", api.Zone{State: api.ZFull, Data: rising(5)}, 4, false},
		{"too many bytes, open", api.Zone{State: api.ZOpen, Data: rising(5)}, 4, false},
		{"Lasts below 0", api.Zone{State: api.ZOpen, Data: rising(3), Lasts: -1}, 4, false},
		{"Lasts all", api.Zone{State: api.ZOpen, Data: rising(3), Lasts: 3}, 4, true},
		{"Lasts beyond", api.Zone{State: api.ZOpen, Data: rising(3), Lasts: 4}, 4, false},
		{"Lasts beyond, empty", api.Zone{Lasts: 1}, 4, false},
		{"Lasts below 0, empty", api.Zone{Lasts: -1}, 4, false},
		{"Lasts beyond, full", api.Zone{State: api.ZFull, Data: rising(4), Lasts: 5}, 4, false},
		{"empty, with a byte", api.Zone{Data: rising(1)}, 4, false},
		{"open, without bytes", api.Zone{State: api.ZOpen}, 4, false},
		{"open, with all", api.Zone{State: api.ZOpen, Data: rising(4)}, 4, false},
		{"closed, without bytes", api.Zone{State: api.ZClosed}, 4, false},
		{"closed, with all", api.Zone{State: api.ZClosed, Data: rising(4)}, 4, false},
	} {
		if x := zone.Check(c.z, c.size); x != c.want {
			t.Errorf("%s: %v", c.what, x)
		}
	}
}

// P3.1: Check and Room of zones of all kinds, at all kinds of sizes.
func TestCheckAndRoom(t *testing.T) {
	right := 0
	for _, z := range handMade() {
		for _, size := range edges {
			want := mayBe(z, size)
			if want {
				right++
			}
			if x := zone.Check(z, size); x != want {
				t.Fatalf("Check(%+v, %d): %v", z, size, x)
			}
			if x, want := zone.Room(z, size), room(z, size); x != want {
				t.Fatalf("Room(%+v, %d): %d, not %d", z, size, x, want)
			}
		}
	}
	if right < 100 {
		t.Errorf("only %d zones may be", right)
	}
}

// P3.1: Room of each state, and of a zone that may not be.
func TestRoomOfEachState(t *testing.T) {
	for _, c := range []struct {
		z    api.Zone
		size int
		want int
	}{
		{api.Zone{}, 4, 4},
		{api.Zone{}, 1, 1},
		{api.Zone{}, 1 << 20, 1 << 20},
		{api.Zone{}, 1<<20 + 1, 0},
		{api.Zone{}, 0, 0},
		{api.Zone{State: api.ZOpen, Data: rising(3)}, 4, 1},
		{api.Zone{State: api.ZClosed, Data: rising(1)}, 4, 3},
		{api.Zone{State: api.ZFull, Data: rising(4)}, 4, 0},
		{api.Zone{State: api.ZFull, Data: rising(1)}, 4, 0},
		{api.Zone{State: api.ZFull}, 4, 0},
		{api.Zone{State: 4}, 4, 0},
		{api.Zone{State: api.ZOpen, Data: rising(3), Lasts: 4}, 4, 0},
		{api.Zone{Resets: -1}, 4, 0},
	} {
		if x := zone.Room(c.z, c.size); x != c.want {
			t.Errorf("Room(%+v, %d): %d, not %d", c.z, c.size, x, c.want)
		}
	}
}

// P3.2, R2: Append of all kinds of zones; ErrArg comes ahead of ErrZone; z stands beside both.
func TestAppend(t *testing.T) {
	seen := map[api.Errno]int{}
	for _, z := range handMade() {
		for _, size := range edges {
			for n := range 8 {
				b := bytes.Repeat([]byte{0x77}, n)
				want, f := appended(z, size, b)
				seen[f]++
				if x, e := zone.Append(z, size, b...); e != f || !same(x, want) {
					t.Fatalf("Append(%+v, %d, %d bytes): %+v, %d, not %+v, %d", z, size, n, x, e, want, f)
				}
			}
		}
	}
	if seen[api.OK] == 0 || seen[api.ErrArg] == 0 || seen[api.ErrZone] == 0 {
		t.Errorf("%v", seen)
	}
}

// P3.2: a zone is just full, one byte short of it, or one byte beyond, from each state on.
func TestAppendUpToFull(t *testing.T) {
	for _, z := range []api.Zone{
		{Resets: 6},
		{State: api.ZOpen, Resets: 6, Data: rising(2), Lasts: 1},
		{State: api.ZClosed, Resets: 6, Data: rising(3), Lasts: 3},
	} {
		left := 5 - len(z.Data)
		b := []byte{9, 8, 7, 6, 5, 4}
		all := slices.Concat(z.Data, b)
		if x, e := zone.Append(z, 5, b[:left-1]...); e != api.OK || !same(x, api.Zone{State: api.ZOpen, Resets: 6, Data: all[:4], Lasts: z.Lasts}) {
			t.Errorf("one short: %+v, %d", x, e)
		}
		if x, e := zone.Append(z, 5, b[:left]...); e != api.OK || !same(x, api.Zone{State: api.ZFull, Resets: 6, Data: all[:5], Lasts: z.Lasts}) {
			t.Errorf("full: %+v, %d", x, e)
		}
		if x, e := zone.Append(z, 5, b[:left+1]...); e != api.ErrZone || !same(x, z) {
			t.Errorf("one beyond: %+v, %d", x, e)
		}
		if x, e := zone.Append(z, 5); e != api.ErrArg || !same(x, z) {
			t.Errorf("no byte: %+v, %d", x, e)
		}
	}
}

// P3.2, R2: no byte is ErrArg, of a full zone too, and so are bytes without room, of one that may not be.
func TestAppendTellsArgFirst(t *testing.T) {
	full := api.Zone{State: api.ZFull, Data: rising(4)}
	if z, e := zone.Append(full, 4); e != api.ErrArg || !same(z, full) {
		t.Errorf("%+v, %d", z, e)
	}
	if z, e := zone.Append(full, 4, 1); e != api.ErrZone || !same(z, full) {
		t.Errorf("%+v, %d", z, e)
	}
	if z, e := zone.Append(full, 3, 1); e != api.ErrArg || !same(z, full) {
		t.Errorf("%+v, %d", z, e)
	}
	early := api.Zone{State: api.ZFull, Data: rising(1)}
	if z, e := zone.Append(early, 4, 1); e != api.ErrZone || !same(z, early) {
		t.Errorf("%+v, %d", z, e)
	}
}

// P3.2: the greatest zone is filled at once, and not beyond.
func TestAppendOfTheGreatest(t *testing.T) {
	b := bytes.Repeat([]byte{3}, api.MaxZone)
	z, e := zone.Append(api.Zone{}, api.MaxZone, b...)
	if e != api.OK || !same(z, api.Zone{State: api.ZFull, Data: b}) {
		t.Errorf("%d bytes, state %d, %d", len(z.Data), z.State, e)
	}
	if z, e := zone.Append(api.Zone{}, api.MaxZone, append(b, 3)...); e != api.ErrZone || !same(z, api.Zone{}) {
		t.Errorf("%d bytes, state %d, %d", len(z.Data), z.State, e)
	}
	if z, e := zone.Append(api.Zone{}, api.MaxZone+1, 3); e != api.ErrArg || !same(z, api.Zone{}) {
		t.Errorf("%+v, %d", z, e)
	}
}

// P3.2: Reset, Finish, Close and Flush of all kinds of zones, which no size holds.
func TestCommandsOfAllZones(t *testing.T) {
	for _, z := range handMade() {
		want, f := reset(z)
		if x, e := zone.Reset(z); e != f || !same(x, want) {
			t.Fatalf("Reset(%+v): %+v, %d, not %+v, %d", z, x, e, want, f)
		}
		want, f = finished(z)
		if x, e := zone.Finish(z); e != f || !same(x, want) {
			t.Fatalf("Finish(%+v): %+v, %d, not %+v, %d", z, x, e, want, f)
		}
		want, f = closed(z)
		if x, e := zone.Close(z); e != f || !same(x, want) {
			t.Fatalf("Close(%+v): %+v, %d, not %+v, %d", z, x, e, want, f)
		}
		want = z
		want.Lasts = len(z.Data)
		if x := zone.Flush(z); !same(x, want) {
			t.Fatalf("Flush(%+v): %+v, not %+v", z, x, want)
		}
	}
}

// P3.2: which states take which command.
func TestCommandsOfEachState(t *testing.T) {
	none := api.ErrZone
	for state, want := range map[int][3]api.Errno{
		api.ZEmpty:  {api.OK, none, none},
		api.ZOpen:   {api.OK, api.OK, api.OK},
		api.ZClosed: {api.OK, api.OK, none},
		api.ZFull:   {api.OK, none, none},
		4:           {none, none, none},
		-1:          {none, none, none},
	} {
		z := api.Zone{State: state, Resets: 2, Data: rising(2), Lasts: 1}
		r, e := zone.Reset(z)
		f, g := zone.Finish(z)
		c, h := zone.Close(z)
		if got := [3]api.Errno{e, g, h}; got != want {
			t.Errorf("state %d: %v, not %v", state, got, want)
		}
		if e == api.OK && !same(r, api.Zone{Resets: 3}) {
			t.Errorf("state %d: reset %+v", state, r)
		}
		if g == api.OK && !same(f, api.Zone{State: api.ZFull, Resets: 2, Data: rising(2), Lasts: 1}) {
			t.Errorf("state %d: finished %+v", state, f)
		}
		if h == api.OK && !same(c, api.Zone{State: api.ZClosed, Resets: 2, Data: rising(2), Lasts: 1}) {
			t.Errorf("state %d: closed %+v", state, c)
		}
	}
}

// P3.2: the last reset is one less than MaxResets away; below 0 there is none.
func TestResetUpToItsLimit(t *testing.T) {
	for _, c := range []struct {
		resets int
		e      api.Errno
	}{
		{0, api.OK}, {1<<30 - 1, api.OK}, {1 << 30, api.ErrZone}, {1<<30 + 1, api.ErrZone}, {math.MaxInt, api.ErrZone},
		{-1, api.ErrZone}, {math.MinInt, api.ErrZone},
	} {
		z := api.Zone{State: api.ZFull, Resets: c.resets, Data: rising(4), Lasts: 4}
		want := z
		if c.e == api.OK {
			want = api.Zone{Resets: c.resets + 1}
		}
		if x, e := zone.Reset(z); e != c.e || !same(x, want) {
			t.Errorf("Resets %d: %+v, %d", c.resets, x, e)
		}
	}
}

// P3.3: Crash of all kinds of zones, at all kinds of sizes and keeps.
func TestCrash(t *testing.T) {
	for _, z := range handMade() {
		for _, size := range []int{math.MinInt, -1, 0, 1, 2, 3, 4, 5, 6, 1 << 20, 1<<20 + 1, math.MaxInt} {
			for _, keep := range edges {
				want := crashed(z, size, keep)
				if x := zone.Crash(z, size, keep); !same(x, want) {
					t.Fatalf("Crash(%+v, %d, %d): %+v, not %+v", z, size, keep, x, want)
				}
			}
		}
	}
}

// P3.3: keep below Lasts, between, and beyond all, in each state.
func TestCrashKeeps(t *testing.T) {
	zones := []api.Zone{
		{State: api.ZOpen, Resets: 5, Data: rising(4), Lasts: 2},
		{State: api.ZClosed, Resets: 5, Data: rising(4), Lasts: 2},
		{State: api.ZFull, Resets: 5, Data: rising(4), Lasts: 2},
		{State: api.ZFull, Resets: 5, Data: rising(6), Lasts: 2},
	}
	after := []int{api.ZClosed, api.ZClosed, api.ZFull, api.ZFull}
	for i, z := range zones {
		for _, keep := range edges {
			n := min(max(keep, 2), len(z.Data))
			want := api.Zone{State: after[i], Resets: 5, Data: rising(n), Lasts: n}
			if x := zone.Crash(z, 6, keep); !same(x, want) {
				t.Errorf("Crash(%+v, 6, %d): %+v", z, keep, x)
			}
		}
	}
}

// P3.3: a zone of which no byte is kept is empty, whatever it was; it has as many resets as it had.
func TestCrashOfAllBytes(t *testing.T) {
	for _, z := range []api.Zone{
		{Resets: 3},
		{State: api.ZOpen, Resets: 3, Data: rising(2)},
		{State: api.ZClosed, Resets: 3, Data: rising(2)},
		{State: api.ZFull, Resets: 3, Data: rising(4)},
		{State: api.ZFull, Resets: 3, Data: rising(1)},
		{State: api.ZFull, Resets: 3},
	} {
		for _, keep := range []int{0, -1, math.MinInt} {
			if x := zone.Crash(z, 4, keep); !same(x, api.Zone{Resets: 3}) {
				t.Errorf("Crash(%+v, 4, %d): %+v", z, keep, x)
			}
		}
	}
}

// P3.3: a zone that may not be is answered as it is.
func TestCrashOfWhatMayNotBe(t *testing.T) {
	for _, c := range []struct {
		z    api.Zone
		size int
	}{
		{api.Zone{State: api.ZOpen, Data: rising(4)}, 4},
		{api.Zone{State: api.ZOpen, Data: rising(3), Lasts: 9}, 4},
		{api.Zone{State: api.ZOpen, Data: rising(3), Lasts: -9}, 4},
		{api.Zone{State: 9, Data: rising(3)}, 4},
		{api.Zone{State: api.ZOpen, Resets: -1, Data: rising(3)}, 4},
		{api.Zone{State: api.ZFull, Data: rising(3)}, 0},
		{api.Zone{State: api.ZFull, Data: rising(3)}, 1<<20 + 1},
	} {
		for _, keep := range []int{-1, 0, 1, 3, 100} {
			if x := zone.Crash(c.z, c.size, keep); !same(x, c.z) {
				t.Errorf("Crash(%+v, %d, %d): %+v", c.z, c.size, keep, x)
			}
		}
	}
}

// reached goes through all zones of three bytes that so many calls make of an empty one.
func reached(t *testing.T, z api.Zone, depth int, next byte) int {
	if !zone.Check(z, 3) {
		t.Fatalf("%+v may not be", z)
	}
	if depth == 0 {
		return 1
	}
	count := 1
	for n := range 4 {
		x, e := zone.Append(z, 3, []byte{next, next + 1, next + 2}[:n]...)
		if e == api.OK && (!bytes.HasPrefix(x.Data, z.Data) || x.Lasts != z.Lasts || x.Resets != z.Resets) {
			t.Fatalf("Append(%+v): %+v", z, x)
		}
		count += reached(t, x, depth-1, next+3)

		x = zone.Crash(z, 3, n)
		if !bytes.HasPrefix(z.Data, x.Data) || len(x.Data) < z.Lasts || x.Resets != z.Resets || x.State == api.ZOpen {
			t.Fatalf("Crash(%+v): %+v", z, x)
		}
		if n == 3 && !bytes.Equal(x.Data, z.Data) {
			t.Fatalf("Crash(%+v) that keeps all: %+v", z, x)
		}
		count += reached(t, x, depth-1, next)
	}
	finished, _ := zone.Finish(z)
	closed, _ := zone.Close(z)
	for _, x := range []api.Zone{finished, closed, zone.Flush(z)} {
		if !bytes.Equal(x.Data, z.Data) || x.Lasts < z.Lasts || x.Resets != z.Resets {
			t.Fatalf("%+v became %+v", z, x)
		}
		count += reached(t, x, depth-1, next)
	}
	x, _ := zone.Reset(z)
	return count + reached(t, x, depth-1, next)
}

// P3.4: behind each call a zone that may be is one; its bytes stand where they were till a reset; what lasts is not lost.
func TestZonesStayRight(t *testing.T) {
	if n := reached(t, api.Zone{}, 4, 1); n < 10000 {
		t.Errorf("only %d zones", n)
	}
}

// P3.4: whatever zone may be, and whatever is done with it, it may be then, too.
func TestAllThatMayBeStayRight(t *testing.T) {
	for _, z := range handMade() {
		if !zone.Check(z, 4) {
			continue
		}
		for n := range 6 {
			for _, keep := range edges {
				for _, c := range calls(rising(n), keep) {
					if x, e := c.do(z); !zone.Check(x, 4) || e != api.OK && !same(x, z) {
						t.Fatalf("%s of %+v: %+v, %d", c.name, z, x, e)
					}
				}
			}
		}
	}
}

// R4: no call changes what it is given, nor its spare room.
func TestArgumentsStay(t *testing.T) {
	for _, z := range handMade() {
		z.Data = withSpare(z.Data)
		kept := z
		before := whole(z.Data)
		for n := range 5 {
			b := withSpare(bytes.Repeat([]byte{0x77}, n))
			bytesBefore := whole(b)
			zone.Check(z, 4)
			zone.Room(z, 4)
			for _, c := range calls(b, n) {
				c.do(z)
				if !same(z, kept) || !bytes.Equal(whole(z.Data), before) || !bytes.Equal(whole(b), bytesBefore) {
					t.Fatalf("%s changes %+v", c.name, kept)
				}
			}
		}
	}
}

// R4: what is answered is memory of its own, its spare room too, beside an error as well.
func TestAnswersAreNew(t *testing.T) {
	for _, z := range handMade() {
		z.Data = withSpare(z.Data)
		before := whole(z.Data)
		for n := range 5 {
			b := withSpare(bytes.Repeat([]byte{0x77}, n))
			bytesBefore := whole(b)
			for _, c := range calls(b, n) {
				first, _ := c.do(z)
				second, _ := c.do(z)
				want := slices.Clone(second.Data)
				fill(first.Data, 0x55)
				if !bytes.Equal(whole(z.Data), before) || !bytes.Equal(whole(b), bytesBefore) || !bytes.Equal(second.Data, want) {
					t.Fatalf("%s of %+v shares what it answers", c.name, z)
				}
			}
		}
	}
}

// R4: a zone's own bytes may be appended to it.
func TestAppendOfItself(t *testing.T) {
	all := []byte{1, 2, 3, 4, 5, 6, 7, 8}
	z := api.Zone{State: api.ZOpen, Data: all[:3]}
	if x, e := zone.Append(z, 8, all[1:6]...); e != api.OK || !bytes.Equal(x.Data, []byte{1, 2, 3, 2, 3, 4, 5, 6}) {
		t.Errorf("%+v, %d", x, e)
	}
	if !bytes.Equal(all, []byte{1, 2, 3, 4, 5, 6, 7, 8}) {
		t.Errorf("%v", all)
	}
}

// R5: spare room, and whether a list is nil, tells nothing.
func TestSpareRoomTellsNothing(t *testing.T) {
	for _, z := range handMade() {
		roomy := z
		roomy.Data = withSpare(z.Data)
		tight := z
		tight.Data = slices.Clip(slices.Clone(z.Data))
		if len(z.Data) == 0 {
			tight.Data = nil
		}
		if zone.Check(roomy, 4) != zone.Check(tight, 4) || zone.Room(roomy, 4) != zone.Room(tight, 4) {
			t.Fatalf("Check or Room of %+v", z)
		}
		for n := range 4 {
			for _, c := range calls(rising(n), n) {
				x, e := c.do(roomy)
				y, f := c.do(tight)
				if e != f || !same(x, y) {
					t.Fatalf("%s of %+v: %+v, %d; %+v, %d", c.name, z, x, e, y, f)
				}
			}
		}
	}
}
