package dev_test

import (
	"bytes"
	"math"
	"slices"
	"testing"

	"waggoner/api"
	"waggoner/dev"
	"waggoner/zone"
)

// edges are numbers at which something else begins: at 0, at small sizes, at MaxZones, at MaxZone, and at an int's ends.
var edges = []int{
	math.MinInt, math.MinInt + 1, -1 << 32, -1 << 31, -2, -1, 0, 1, 2, 3, 4, 5, 6, 7, 8,
	63, 64, 65, 1<<20 - 1, 1 << 20, 1<<20 + 1, 1 << 30, 1<<31 - 1, 1 << 31, 1 << 32, 1<<32 + 1, math.MaxInt - 1, math.MaxInt,
}

// rising are bytes 1, 2, 3 and on.
func rising(n int) []byte {
	out := make([]byte, n)
	for i := range out {
		out[i] = byte(i + 1)
	}
	return out
}

// Zones of four bytes, of all states.
func empty() api.Zone     { return api.Zone{Resets: 2} }
func open() api.Zone      { return api.Zone{State: api.ZOpen, Resets: 3, Data: rising(2), Lasts: 1} }
func closed() api.Zone    { return api.Zone{State: api.ZClosed, Resets: 4, Data: rising(3), Lasts: 2} }
func full() api.Zone      { return api.Zone{State: api.ZFull, Data: rising(4)} }
func early() api.Zone     { return api.Zone{State: api.ZFull, Data: rising(1), Lasts: 1} }
func wornOut() api.Zone   { return api.Zone{State: api.ZFull, Resets: api.MaxResets, Data: rising(4)} }
func unlasting() api.Zone { return api.Zone{State: api.ZOpen, Data: rising(2)} }

// noZones are zones of four bytes that may not be.
func noZones() []api.Zone {
	return []api.Zone{
		{State: 4}, {State: -1, Data: rising(2)}, {Resets: -1}, {Resets: api.MaxResets + 1}, {Lasts: 1}, {Data: rising(1)},
		{State: api.ZOpen}, {State: api.ZOpen, Data: rising(4)}, {State: api.ZOpen, Data: rising(2), Lasts: 3}, {State: api.ZOpen, Data: rising(2), Lasts: -1},
		{State: api.ZClosed}, {State: api.ZFull, Data: rising(5)}, {State: api.ZOpen, Data: rising(2), Lasts: math.MaxInt},
	}
}

// of is a device of these zones, of four bytes each.
func of(zones ...api.Zone) api.Device { return api.Device{Size: 4, Zones: zones, Left: -1, Done: 7} }

// times are as many copies of a zone.
func times(n int, z api.Zone) []api.Zone { return slices.Repeat([]api.Zone{z}, n) }

// rightDevices are some that may be.
func rightDevices() []api.Device {
	out := []api.Device{
		of(empty()), of(open()), of(closed()), of(full()), of(early()), of(wornOut()), of(unlasting()),
		of(empty(), open(), closed(), full(), early(), wornOut()),
		of(open(), open(), empty(), closed()),
		of(open(), open(), open(), empty(), closed(), full()),
		of(closed(), empty(), open(), unlasting(), open()),
		of(open(), open(), open(), open(), empty(), closed(), wornOut()),
		of(open(), open(), open(), open(), open(), full(), early(), closed()),
		of(times(api.MaxZones, empty())...),
		of(times(api.MaxZones, closed())...),
	}
	// One that a Size of one byte and of the most may have.
	out = append(out, api.Device{Size: 1, Zones: []api.Zone{{}, {State: api.ZFull, Data: rising(1)}}, Left: -1})
	return append(out, api.Device{Size: api.MaxZone, Zones: []api.Zone{open(), empty(), full()}, Left: -1})
}

// wrongDevices are some that may not be, each for one thing alone.
func wrongDevices() []api.Device {
	out := []api.Device{{}, of(), of(times(api.MaxZones+1, empty())...), of(times(1000, open())...)}
	for _, size := range []int{0, -1, -4, math.MinInt, api.MaxZone + 1, math.MaxInt, 1<<32 + 4} {
		out = append(out, api.Device{Size: size, Zones: []api.Zone{empty(), empty()}, Left: -1, Done: 7})
	}
	// Of zones that have too many bytes for the Size alone.
	out = append(out, api.Device{Size: 3, Zones: []api.Zone{full()}, Left: -1}, api.Device{Size: 2, Zones: []api.Zone{empty(), open()}, Left: -1})
	for _, z := range noZones() {
		out = append(out, of(z), of(z, open()), of(empty(), z, open()), of(open(), full(), z))
	}
	return out
}

// handMade are devices of both kinds, with each Left, Down and Done.
func handMade() []api.Device {
	var out []api.Device
	for _, d := range append(rightDevices(), wrongDevices()...) {
		for _, left := range []int{-1, 0, 1, 2, -2, math.MinInt, math.MaxInt} {
			for _, down := range []bool{false, true} {
				d.Left, d.Down = left, down
				out = append(out, d)
			}
		}
	}
	return out
}

// cmds are commands of each Kind, and of none, to zones that there are, and that there are not.
func cmds(zones int) []api.Cmd {
	var out []api.Cmd
	for _, kind := range []int{1, 2, 3, 4, 5, 0, 6, -1, 7, 257, math.MinInt, math.MaxInt, 1<<32 + 1} {
		for _, n := range []int{0, 1, 2, 3, 4, zones - 2, zones - 1, zones, zones + 1, -1, math.MinInt, math.MaxInt, 1 << 32} {
			out = append(out, api.Cmd{Kind: kind, N: n}, api.Cmd{Kind: kind, N: n, Data: []byte{9}}, api.Cmd{Kind: kind, N: n, Data: []byte{9, 8}}, api.Cmd{Kind: kind, N: n, Data: rising(5)})
		}
	}
	return out
}

// sameZone tells whether two zones are alike.
func sameZone(a, b api.Zone) bool {
	return a.State == b.State && a.Resets == b.Resets && a.Lasts == b.Lasts && bytes.Equal(a.Data, b.Data)
}

// same tells whether two devices are alike.
func same(a, b api.Device) bool {
	return a.Size == b.Size && a.Left == b.Left && a.Down == b.Down && a.Done == b.Done && slices.EqualFunc(a.Zones, b.Zones, sameZone)
}

// deep is a copy of a device.
func deep(d api.Device) api.Device {
	d.Zones = slices.Clone(d.Zones)
	for i := range d.Zones {
		d.Zones[i].Data = slices.Clone(d.Zones[i].Data)
	}
	return d
}

// mayBe is P4.1's Check, word by word.
func mayBe(d api.Device) bool {
	if d.Size < 1 || d.Size > 1048576 {
		return false
	}
	if len(d.Zones) < 1 || len(d.Zones) > 64 {
		return false
	}
	for _, z := range d.Zones {
		if !zone.Check(z, d.Size) {
			return false
		}
	}
	return true
}

// opened is P4.1's Open.
func opened(d api.Device) int {
	n := 0
	for _, z := range d.Zones {
		if z.State == 1 {
			n++
		}
	}
	return n
}

// done is P4.2, step by step.
func done(d api.Device, c api.Cmd) (api.Device, api.Errno) {
	d = deep(d)
	if !mayBe(d) {
		return d, api.ErrArg
	}
	if d.Down {
		return d, api.ErrDown
	}
	if d.Left == 0 {
		d.Down = true
		return d, api.ErrDown
	}
	if d.Left > 0 {
		d.Left = d.Left - 1
	}
	d.Done = d.Done + 1
	if c.Kind == 5 {
		for i := range d.Zones {
			d.Zones[i] = zone.Flush(d.Zones[i])
		}
		return d, api.OK
	}
	if c.Kind < 1 || c.Kind > 5 {
		return d, api.ErrArg
	}
	if c.N < 0 || c.N > len(d.Zones)-1 {
		return d, api.ErrArg
	}
	z := d.Zones[c.N]
	e := api.OK
	switch c.Kind {
	case 1:
		if z.State != 1 && opened(d) >= 3 {
			return d, api.ErrZone
		}
		z, e = zone.Append(z, d.Size, c.Data...)
	case 2:
		z, e = zone.Reset(z)
	case 3:
		z, e = zone.Finish(z)
	case 4:
		z, e = zone.Close(z)
	}
	d.Zones[c.N] = z
	return d, e
}

// crashed is P4.3's Crash.
func crashed(d api.Device, keeps []int) api.Device {
	d = deep(d)
	if !mayBe(d) {
		return d
	}
	for i := range d.Zones {
		keep := 0
		if i < len(keeps) {
			keep = keeps[i]
		}
		d.Zones[i] = zone.Crash(d.Zones[i], d.Size, keep)
	}
	d.Down = false
	d.Left = -1
	return d
}

// keepings are what zones may keep: none told, fewer than there are, as many, and more.
func keepings() [][]int {
	return [][]int{
		nil, {}, {2}, {0, 2}, {9, 9, 9}, {1, 0, 3, 2}, {3, 2, 1, 0, 4}, {-1, math.MinInt, math.MaxInt, -5, 1},
		slices.Repeat([]int{1}, 64), slices.Repeat([]int{math.MaxInt}, 65), slices.Repeat([]int{math.MinInt}, 1000),
	}
}

// withSpare is a list of these members, whose spare room is filled.
func withSpare[T any](members []T, x T) []T {
	return append(slices.Clone(members), slices.Repeat([]T{x}, 16)...)[:len(members)]
}

// fill writes over a list, its spare room too.
func fill[T any](l []T, x T) {
	l = l[:cap(l)]
	for i := range l {
		l[i] = x
	}
}

// roomy is a device whose lists have spare room, filled by 0xaa, and by zones of it.
func roomy(d api.Device) api.Device {
	d = deep(d)
	for i := range d.Zones {
		d.Zones[i].Data = withSpare(d.Zones[i].Data, 0xaa)
	}
	d.Zones = withSpare(d.Zones, api.Zone{State: 0xaa, Data: bytes.Repeat([]byte{0xaa}, 3)})
	return d
}

// whole is a copy of a device with all spare room made bytes and zones of it.
func whole(d api.Device) api.Device {
	d.Zones = slices.Clone(d.Zones[:cap(d.Zones)])
	for i, z := range d.Zones {
		d.Zones[i].Data = slices.Clone(z.Data[:cap(z.Data)])
	}
	return d
}

// ruin writes over all of a device, spare room too.
func ruin(d api.Device) {
	for _, z := range d.Zones {
		fill(z.Data, 0x55)
	}
	fill(d.Zones, api.Zone{State: 0x55, Resets: 0x55, Data: []byte{0x55}, Lasts: 0x55})
}

// call is one that answers a device, with what it asks for in it.
type call struct {
	name string
	do   func(d api.Device) (api.Device, api.Errno)
}

// calls are all that answer a device out of one.
func calls(data []byte, keeps []int) []call {
	out := []call{
		{"Crash", func(d api.Device) (api.Device, api.Errno) { return dev.Crash(d, keeps...), api.OK }},
		{"Limit", func(d api.Device) (api.Device, api.Errno) { return dev.Limit(d, 5), api.OK }},
	}
	for kind := range 7 {
		for _, n := range []int{-1, 0, 1, 2, 3} {
			out = append(out, call{"Do", func(d api.Device) (api.Device, api.Errno) {
				return dev.Do(d, api.Cmd{Kind: kind, N: n, Data: data})
			}})
		}
	}
	return out
}

// must does commands, all of which are OK.
func must(t *testing.T, d api.Device, l ...api.Cmd) api.Device {
	t.Helper()
	for i, c := range l {
		x, e := dev.Do(d, c)
		if e != api.OK {
			t.Fatalf("command %d: %d", i, e)
		}
		d = x
	}
	return d
}

// P4.2, P4.3: the chapter's example.
func TestExample(t *testing.T) {
	d, e := dev.New(2, 8)
	if e != api.OK {
		t.Fatal(e)
	}
	d, e = dev.Do(d, api.Cmd{Kind: api.CAppend, N: 1, Data: []byte{5, 6}})
	if e != api.OK || !sameZone(d.Zones[1], api.Zone{State: api.ZOpen, Data: []byte{5, 6}}) || !sameZone(d.Zones[0], api.Zone{}) {
		t.Errorf("%+v, %d", d, e)
	}
	d = dev.Crash(d, 0, 1)
	if !sameZone(d.Zones[1], api.Zone{State: api.ZClosed, Data: []byte{5}, Lasts: 1}) || !sameZone(d.Zones[0], api.Zone{}) {
		t.Errorf("%+v", d)
	}
}

// P4.1: New at all numbers of zones and sizes.
func TestNew(t *testing.T) {
	for _, zones := range edges {
		for _, size := range edges {
			d, e := dev.New(zones, size)
			if zones < 1 || zones > 64 || size < 1 || size > 1048576 {
				if e != api.ErrArg || !same(d, api.Device{}) {
					t.Errorf("New(%d, %d): %+v, %d", zones, size, d, e)
				}
				continue
			}
			if want := (api.Device{Size: size, Zones: make([]api.Zone, zones), Left: -1}); e != api.OK || !same(d, want) {
				t.Errorf("New(%d, %d): %+v, %d", zones, size, d, e)
			}
			if !dev.Check(d) || dev.Open(d) != 0 {
				t.Errorf("New(%d, %d): may not be, or has %d open zones", zones, size, dev.Open(d))
			}
		}
	}
}

// P4.1: each thing that a device must have, alone.
func TestCheckOfEachPart(t *testing.T) {
	for i, d := range rightDevices() {
		if !dev.Check(d) {
			t.Errorf("%d: %+v may not be", i, d)
		}
	}
	for i, d := range wrongDevices() {
		if dev.Check(d) {
			t.Errorf("%d: %+v may be", i, d)
		}
	}
}

// P4.1: Check asks Size, and how many Zones there are, at all edges, and nothing of Left, Down and Done.
func TestCheckOfSizes(t *testing.T) {
	for _, size := range edges {
		for _, zones := range []int{0, 1, 2, 63, 64, 65, 66, 128} {
			for _, left := range edges {
				d := api.Device{Size: size, Zones: times(zones, empty()), Left: left, Down: left%2 == 0, Done: -left}
				if x, want := dev.Check(d), size >= 1 && size <= 1048576 && zones >= 1 && zones <= 64; x != want {
					t.Errorf("%d zones of %d, Left %d: %v", zones, size, left, x)
				}
			}
		}
	}
}

// P4.1: a zone that may not be is found at each place.
func TestCheckOfEachZone(t *testing.T) {
	for n := range api.MaxZones {
		d := of(times(api.MaxZones, closed())...)
		d.Zones[n].Lasts = 4
		if dev.Check(d) {
			t.Errorf("zone %d has more that lasts than bytes", n)
		}
	}
}

// P4.1: Open of devices of all kinds, also of such as may not be.
func TestOpen(t *testing.T) {
	for _, d := range handMade() {
		if x, want := dev.Open(d), opened(d); x != want {
			t.Fatalf("Open(%+v): %d, not %d", d, x, want)
		}
	}
	for _, c := range []struct {
		d    api.Device
		want int
	}{
		{api.Device{}, 0},
		{of(empty(), closed(), full()), 0},
		{of(open(), empty(), open()), 2},
		{of(times(64, open())...), 64},
		{of(times(65, open())...), 65},
		{api.Device{Zones: times(3, api.Zone{State: api.ZOpen})}, 3},
	} {
		if x := dev.Open(c.d); x != c.want {
			t.Errorf("Open(%+v): %d, not %d", c.d, x, c.want)
		}
	}
}

// P4.1: Limit changes Left alone, of a device that is Down, or may not be, too.
func TestLimit(t *testing.T) {
	for _, d := range handMade() {
		for _, left := range edges {
			want := d
			want.Left = left
			if x := dev.Limit(d, left); !same(x, want) {
				t.Fatalf("Limit(%+v, %d): %+v", d, left, x)
			}
		}
	}
}

// P4.2, R2: Do of all kinds of devices and commands, what stands beside an error too.
func TestDo(t *testing.T) {
	seen := map[api.Errno]int{}
	for _, d := range handMade() {
		for _, c := range cmds(len(d.Zones)) {
			want, f := done(d, c)
			seen[f]++
			if x, e := dev.Do(d, c); e != f || !same(x, want) {
				t.Fatalf("Do(%+v, %+v): %+v, %d, not %+v, %d", d, c, x, e, want, f)
			}
		}
	}
	for _, e := range []api.Errno{api.OK, api.ErrArg, api.ErrZone, api.ErrDown} {
		if seen[e] < 100 {
			t.Errorf("%d is told %d times", e, seen[e])
		}
	}
}

// P4.2: each command does with one zone what zone's call does, and counts.
func TestEachCommand(t *testing.T) {
	d := of(empty(), open(), closed(), full())
	for _, c := range []struct {
		what string
		c    api.Cmd
		want api.Zone
	}{
		{"append to an empty one", api.Cmd{Kind: api.CAppend, N: 0, Data: []byte{9}}, api.Zone{State: api.ZOpen, Resets: 2, Data: []byte{9}}},
		{"append to an open one", api.Cmd{Kind: api.CAppend, N: 1, Data: []byte{9}}, api.Zone{State: api.ZOpen, Resets: 3, Data: []byte{1, 2, 9}, Lasts: 1}},
		{"append up to full", api.Cmd{Kind: api.CAppend, N: 1, Data: []byte{9, 8}}, api.Zone{State: api.ZFull, Resets: 3, Data: []byte{1, 2, 9, 8}, Lasts: 1}},
		{"append to a closed one", api.Cmd{Kind: api.CAppend, N: 2, Data: []byte{9}}, api.Zone{State: api.ZFull, Resets: 4, Data: []byte{1, 2, 3, 9}, Lasts: 2}},
		{"reset an empty one", api.Cmd{Kind: api.CReset, N: 0}, api.Zone{Resets: 3}},
		{"reset a full one, with Data that nobody asks", api.Cmd{Kind: api.CReset, N: 3, Data: rising(9)}, api.Zone{Resets: 1}},
		{"finish an open one", api.Cmd{Kind: api.CFinish, N: 1}, api.Zone{State: api.ZFull, Resets: 3, Data: rising(2), Lasts: 1}},
		{"finish a closed one", api.Cmd{Kind: api.CFinish, N: 2}, api.Zone{State: api.ZFull, Resets: 4, Data: rising(3), Lasts: 2}},
		{"close an open one", api.Cmd{Kind: api.CClose, N: 1}, api.Zone{State: api.ZClosed, Resets: 3, Data: rising(2), Lasts: 1}},
	} {
		want := deep(d)
		want.Zones[c.c.N] = c.want
		want.Done = 8
		if x, e := dev.Do(d, c.c); e != api.OK || !same(x, want) {
			t.Errorf("%s: %+v, %d", c.what, x, e)
		}
	}
}

// P4.2: a flush is of all zones, whatever zone the command names.
func TestFlush(t *testing.T) {
	d := of(empty(), open(), closed(), full(), early(), unlasting())
	want := deep(d)
	for i, z := range want.Zones {
		want.Zones[i].Lasts = len(z.Data)
	}
	want.Done = 8
	for _, n := range edges {
		if x, e := dev.Do(d, api.Cmd{Kind: api.CFlush, N: n, Data: []byte{1}}); e != api.OK || !same(x, want) {
			t.Errorf("N %d: %+v, %d", n, x, e)
		}
	}
}

// P4.2: the first, the last, and the zones just beyond, for each Kind that names one.
func TestZonesThatThereAre(t *testing.T) {
	for _, zones := range []int{1, 2, 63, 64} {
		d := of(times(zones, closed())...)
		d.Left = 5
		for _, kind := range []int{api.CAppend, api.CReset, api.CFinish} {
			for _, n := range []int{0, zones - 1} {
				x, e := dev.Do(d, api.Cmd{Kind: kind, N: n, Data: []byte{9}})
				if e != api.OK || sameZone(x.Zones[n], closed()) {
					t.Errorf("kind %d of zone %d of %d: %d", kind, n, zones, e)
				}
				x.Zones[n] = closed()
				if !slices.EqualFunc(x.Zones, d.Zones, sameZone) {
					t.Errorf("kind %d of zone %d of %d changes others", kind, n, zones)
				}
			}
		}
		want := d
		want.Left, want.Done = 4, 8
		for _, kind := range []int{api.CAppend, api.CReset, api.CFinish, api.CClose} {
			for _, n := range []int{-1, zones, zones + 1, math.MinInt, math.MaxInt} {
				if x, e := dev.Do(d, api.Cmd{Kind: kind, N: n, Data: []byte{9}}); e != api.ErrArg || !same(x, want) {
					t.Errorf("kind %d of zone %d of %d: %+v, %d", kind, n, zones, x, e)
				}
			}
		}
	}
}

// P4.2: a Kind that is none is ErrArg; it is counted all the same, and does nothing else.
func TestNoKind(t *testing.T) {
	d := of(open(), closed())
	d.Left = 3
	want := d
	want.Left, want.Done = 2, 8
	for _, kind := range append([]int{9, 255, 256, 257, 258, -3, -4, -5}, edges...) {
		if kind >= 1 && kind <= 5 {
			continue
		}
		if x, e := dev.Do(d, api.Cmd{Kind: kind, Data: []byte{9}}); e != api.ErrArg || !same(x, want) {
			t.Errorf("kind %d: %+v, %d", kind, x, e)
		}
	}
}

// P4.2: no fourth zone is opened, neither an empty nor a closed one; what is open is appended to, and so many as are open already stay.
func TestMostOpen(t *testing.T) {
	put := func(n int) api.Cmd { return api.Cmd{Kind: api.CAppend, N: n, Data: []byte{9}} }
	two := of(open(), open(), empty(), closed(), empty())
	three := of(open(), open(), open(), closed(), empty())
	four := of(open(), open(), open(), open(), empty(), closed())
	for _, c := range []struct {
		what string
		d    api.Device
		n    int
		want api.Errno
	}{
		{"the third, empty", two, 2, api.OK},
		{"the third, closed", two, 3, api.OK},
		{"the fourth, closed", three, 3, api.ErrZone},
		{"the fourth, empty", three, 4, api.ErrZone},
		{"an open one of three", three, 2, api.OK},
		{"the fifth, empty", four, 4, api.ErrZone},
		{"the fifth, closed", four, 5, api.ErrZone},
		{"an open one of four", four, 3, api.OK},
	} {
		want := c.d
		want.Done = 8
		x, e := dev.Do(c.d, put(c.n))
		if e != c.want {
			t.Errorf("%s: %d", c.what, e)
		}
		if e != api.OK && !same(x, want) {
			t.Errorf("%s: %+v", c.what, x)
		}
	}
	// One that becomes full at once is not open then, and is not taken all the same.
	if _, e := dev.Do(three, api.Cmd{Kind: api.CAppend, N: 4, Data: rising(4)}); e != api.ErrZone {
		t.Errorf("all of a zone: %d", e)
	}
	for i, c := range []api.Cmd{{Kind: api.CClose, N: 0}, {Kind: api.CFinish, N: 1}, {Kind: api.CReset, N: 2}, {Kind: api.CAppend, N: 2, Data: rising(2)}} {
		if x := must(t, three, c, put(4)); dev.Open(x) != 3 {
			t.Errorf("%d: %d are open", i, dev.Open(x))
		}
	}
}

// P4.2, R2: no byte is ErrArg, but ErrZone if too many zones are open; a zone that there is not is ErrArg even then.
func TestErrorsOfAppend(t *testing.T) {
	three := of(open(), open(), open(), closed(), full())
	for _, c := range []struct {
		what string
		c    api.Cmd
		want api.Errno
	}{
		{"no byte to a fourth", api.Cmd{Kind: api.CAppend, N: 3}, api.ErrZone},
		{"no byte to a full one, three are open", api.Cmd{Kind: api.CAppend, N: 4}, api.ErrZone},
		{"no byte to an open one", api.Cmd{Kind: api.CAppend, N: 0}, api.ErrArg},
		{"too many to an open one", api.Cmd{Kind: api.CAppend, N: 0, Data: rising(3)}, api.ErrZone},
		{"no such zone", api.Cmd{Kind: api.CAppend, N: 5, Data: rising(1)}, api.ErrArg},
		{"no such zone, no byte", api.Cmd{Kind: api.CAppend, N: -1}, api.ErrArg},
	} {
		want := three
		want.Done = 8
		if x, e := dev.Do(three, c.c); e != c.want || !same(x, want) {
			t.Errorf("%s: %+v, %d", c.what, x, e)
		}
	}
	if _, e := dev.Do(of(full()), api.Cmd{Kind: api.CAppend}); e != api.ErrArg {
		t.Errorf("no byte to a full one: %d", e)
	}
	if _, e := dev.Do(of(full()), api.Cmd{Kind: api.CAppend, Data: rising(1)}); e != api.ErrZone {
		t.Errorf("a byte to a full one: %d", e)
	}
}

// P4.2: beside an error of a zone's the zone stays as it was, and the command is counted.
func TestErrorsOfZones(t *testing.T) {
	d := of(empty(), closed(), full(), wornOut())
	d.Left = 9
	want := d
	want.Left, want.Done = 8, 8
	for _, c := range []api.Cmd{
		{Kind: api.CFinish, N: 0}, {Kind: api.CClose, N: 0}, {Kind: api.CClose, N: 1},
		{Kind: api.CFinish, N: 2}, {Kind: api.CClose, N: 2}, {Kind: api.CReset, N: 3}, {Kind: api.CAppend, N: 0, Data: rising(5)},
	} {
		if x, e := dev.Do(d, c); e != api.ErrZone || !same(x, want) {
			t.Errorf("%+v: %+v, %d", c, x, e)
		}
	}
}

// P4.2, R2: which step comes first: Check, Down, Left, the count, the Kind.
func TestOrderOfSteps(t *testing.T) {
	wrong := of(open(), api.Zone{State: 9})
	wrong.Down, wrong.Left = true, 0
	if x, e := dev.Do(wrong, api.Cmd{Kind: 99}); e != api.ErrArg || !same(x, wrong) {
		t.Errorf("%+v, %d", x, e)
	}
	wrong.Down = false
	if x, e := dev.Do(wrong, api.Cmd{Kind: api.CFlush}); e != api.ErrArg || !same(x, wrong) {
		t.Errorf("%+v, %d", x, e)
	}
	for _, left := range edges {
		down := of(open(), closed())
		down.Down, down.Left = true, left
		for _, c := range cmds(2) {
			if x, e := dev.Do(down, c); e != api.ErrDown || !same(x, down) {
				t.Errorf("Left %d, %+v: %+v, %d", left, c, x, e)
			}
		}
	}
	out := of(open(), closed())
	out.Left = 0
	want := out
	want.Down = true
	for _, c := range cmds(2) {
		if x, e := dev.Do(out, c); e != api.ErrDown || !same(x, want) {
			t.Errorf("%+v: %+v, %d", c, x, e)
		}
	}
}

// P4.2: Left goes down to 0, and is not touched below; Done goes up by one.
func TestCount(t *testing.T) {
	for _, left := range edges {
		d := of(open(), closed())
		d.Left, d.Done = left, 41
		want := left
		if left > 0 {
			want = left - 1
		}
		for _, c := range []api.Cmd{{Kind: api.CFlush}, {Kind: api.CReset}, {Kind: api.CReset, N: 2}, {Kind: api.CClose, N: 1}, {Kind: 6}} {
			x, e := dev.Do(d, c)
			if left == 0 {
				if e != api.ErrDown || !x.Down || x.Left != 0 || x.Done != 41 {
					t.Errorf("Left 0, %+v: %+v, %d", c, x, e)
				}
				continue
			}
			if e == api.ErrDown || x.Down || x.Left != want || x.Done != 42 {
				t.Errorf("Left %d, %+v: %+v, %d", left, c, x, e)
			}
		}
	}
}

// P4.1, P4.2: a device with a limit does so many commands, those with errors counted, and goes down at the next one.
func TestLimitedDevice(t *testing.T) {
	for left := range 5 {
		d, _ := dev.New(3, 8)
		d = dev.Limit(d, left)
		all := []api.Cmd{{Kind: api.CAppend, N: 1, Data: rising(3)}, {Kind: api.CClose, N: 0}, {Kind: 77}, {Kind: api.CFlush}, {Kind: api.CReset, N: 2}, {Kind: api.CFlush}}
		for i, c := range all {
			x, e := dev.Do(d, c)
			if (e == api.ErrDown) != (i >= left) || x.Down != (i >= left) || x.Done != min(i+1, left) || x.Left != max(left-i-1, 0) {
				t.Errorf("Left %d, command %d: %+v, %d", left, i, x, e)
			}
			d = x
		}
		up := dev.Crash(d)
		if up.Down || up.Left != -1 || up.Done != left {
			t.Errorf("Left %d, crashed: %+v", left, up)
		}
		must(t, up, api.Cmd{Kind: api.CFlush}, api.Cmd{Kind: api.CAppend, N: 2, Data: rising(8)})
	}
}

// P4.2: Done may be any number, and is told no limit.
func TestDoneHasNoLimit(t *testing.T) {
	for _, n := range edges[:len(edges)-1] {
		d := of(empty())
		d.Done = n
		if x, e := dev.Do(d, api.Cmd{Kind: api.CFlush}); e != api.OK || x.Done != n+1 {
			t.Errorf("Done %d: %+v, %d", n, x, e)
		}
	}
	d := of(empty())
	d.Done = math.MaxInt
	if _, e := dev.Do(d, api.Cmd{Kind: api.CFlush}); e != api.OK {
		t.Errorf("the greatest Done: %d", e)
	}
}

// P4.3: Crash of all kinds of devices, with all kinds of keeps.
func TestCrash(t *testing.T) {
	for _, d := range handMade() {
		for _, keeps := range keepings() {
			want := crashed(d, keeps)
			if x := dev.Crash(d, keeps...); !same(x, want) {
				t.Fatalf("Crash(%+v, %v): %+v, not %+v", d, keeps, x, want)
			}
		}
	}
}

// P4.3: keeps stand at their zones' places; 0 is kept where there is none; more than zones are not asked.
func TestCrashKeeps(t *testing.T) {
	d := api.Device{Size: 8, Zones: times(3, api.Zone{State: api.ZOpen, Resets: 5, Data: rising(6), Lasts: 2}), Left: 0, Down: true, Done: 9}
	for _, c := range []struct {
		keeps []int
		want  []int
	}{
		{nil, []int{2, 2, 2}},
		{[]int{3}, []int{3, 2, 2}},
		{[]int{0, 4}, []int{2, 4, 2}},
		{[]int{1, 3, 5}, []int{2, 3, 5}},
		{[]int{6, 7, math.MaxInt}, []int{6, 6, 6}},
		{[]int{-1, math.MinInt, 3, 6}, []int{2, 2, 3}},
		{[]int{3, 4, 5, 6, 7}, []int{3, 4, 5}},
	} {
		want := api.Device{Size: 8, Left: -1, Done: 9}
		for _, n := range c.want {
			want.Zones = append(want.Zones, api.Zone{State: api.ZClosed, Resets: 5, Data: rising(n), Lasts: n})
		}
		if x := dev.Crash(d, c.keeps...); !same(x, want) {
			t.Errorf("Crash of keeps %v: %+v", c.keeps, x)
		}
	}
}

// P4.3: a device that may not be is answered as it is, with its Left, and Down if it was.
func TestCrashOfWhatMayNotBe(t *testing.T) {
	for _, d := range wrongDevices() {
		d.Left, d.Down = 3, true
		for _, keeps := range keepings() {
			if x := dev.Crash(d, keeps...); !same(x, d) {
				t.Errorf("Crash(%+v, %v): %+v", d, keeps, x)
			}
		}
	}
}

// P4.3: Read of all kinds of devices, at all kinds of places.
func TestRead(t *testing.T) {
	places := []int{math.MinInt, -1, 0, 1, 2, 3, 4, 5, math.MaxInt - 4, math.MaxInt - 1, math.MaxInt, 1 << 32}
	right := 0
	for _, d := range handMade() {
		for _, n := range []int{math.MinInt, -1, 0, 1, 2, len(d.Zones) - 1, len(d.Zones), len(d.Zones) + 1, math.MaxInt, 1 << 32} {
			for _, at := range places {
				for _, many := range places {
					b, e := dev.Read(d, n, at, many)
					var all []byte
					if n >= 0 && n < len(d.Zones) {
						all = d.Zones[n].Data
					}
					may := mayBe(d) && n >= 0 && n < len(d.Zones) && at >= 0 && many >= 0 && at <= len(all) && many <= len(all)-at
					if !may {
						if e != api.ErrArg || len(b) != 0 {
							t.Fatalf("Read(%+v, %d, %d, %d): %v, %d", d, n, at, many, b, e)
						}
						continue
					}
					right++
					if e != api.OK || !bytes.Equal(b, all[at:at+many]) {
						t.Fatalf("Read(%+v, %d, %d, %d): %v, %d", d, n, at, many, b, e)
					}
				}
			}
		}
	}
	if right < 1000 {
		t.Errorf("only %d were right", right)
	}
}

// P4.3: up to the end of Data, just beyond it, and below 0, in each state; what is down is read, too.
func TestReadUpToTheEnd(t *testing.T) {
	d := of(empty(), open(), closed(), full())
	d.Down, d.Left = true, 0
	for _, c := range []struct {
		zone, at, n int
		want        []byte
		e           api.Errno
	}{
		{0, 0, 0, nil, api.OK}, {0, 0, 1, nil, api.ErrArg}, {0, 1, 0, nil, api.ErrArg},
		{1, 0, 2, []byte{1, 2}, api.OK}, {1, 1, 1, []byte{2}, api.OK}, {1, 2, 0, nil, api.OK}, {1, 2, 1, nil, api.ErrArg}, {1, 3, 0, nil, api.ErrArg}, {1, 3, -1, nil, api.ErrArg}, {1, -1, 2, nil, api.ErrArg},
		{2, 0, 3, []byte{1, 2, 3}, api.OK}, {2, 1, 3, nil, api.ErrArg}, {2, 2, 1, []byte{3}, api.OK},
		{3, 1, 3, []byte{2, 3, 4}, api.OK}, {3, 1, math.MaxInt, nil, api.ErrArg}, {3, math.MaxInt, 1, nil, api.ErrArg}, {3, math.MaxInt, math.MaxInt, nil, api.ErrArg}, {3, 4, 0, nil, api.OK},
		{4, 0, 0, nil, api.ErrArg}, {-1, 0, 0, nil, api.ErrArg},
	} {
		if b, e := dev.Read(d, c.zone, c.at, c.n); e != c.e || !bytes.Equal(b, c.want) {
			t.Errorf("Read(%d, %d, %d): %v, %d", c.zone, c.at, c.n, b, e)
		}
	}
}

// reached goes through all devices that so many commands and crashes make of one, and asks P4.4 of each step.
func reached(t *testing.T, d api.Device, depth int, next byte) int {
	if !dev.Check(d) {
		t.Fatalf("%+v may not be", d)
	}
	if dev.Open(d) > api.MaxOpen {
		t.Fatalf("%+v has %d open zones", d, dev.Open(d))
	}
	if depth == 0 {
		return 1
	}
	count := 1
	for n := range d.Zones {
		for _, c := range []api.Cmd{{Kind: api.CAppend, N: n, Data: []byte{next}}, {Kind: api.CAppend, N: n, Data: []byte{next, next + 1}}, {Kind: api.CReset, N: n}, {Kind: api.CFinish, N: n}, {Kind: api.CClose, N: n}} {
			x, _ := dev.Do(d, c)
			for i, z := range d.Zones {
				if (c.Kind != api.CReset || i != n) && (!bytes.HasPrefix(x.Zones[i].Data, z.Data) || x.Zones[i].Lasts != z.Lasts) {
					t.Fatalf("Do(%+v, %+v): %+v", d, c, x)
				}
			}
			count += reached(t, x, depth-1, next+2)
		}
	}
	flushed := must(t, d, api.Cmd{Kind: api.CFlush})
	for _, x := range []api.Device{dev.Crash(flushed), dev.Crash(d, 9, 9, 9, 9, 9)} {
		for i, z := range d.Zones {
			if !bytes.Equal(x.Zones[i].Data, z.Data) {
				t.Fatalf("%+v lost bytes: %+v", d, x)
			}
		}
	}
	count += reached(t, flushed, depth-1, next)
	for _, keeps := range [][]int{nil, {1, 0, 1}, {0, 1}, {9, 9, 9, 9, 9}} {
		x := dev.Crash(d, keeps...)
		if dev.Open(x) != 0 {
			t.Fatalf("Crash(%+v) has open zones: %+v", d, x)
		}
		for i, z := range d.Zones {
			if b := x.Zones[i].Data; !bytes.HasPrefix(z.Data, b) || len(b) < z.Lasts {
				t.Fatalf("Crash(%+v, %v): %+v", d, keeps, x)
			}
		}
		count += reached(t, x, depth-1, next)
	}
	return count
}

// P4.4: devices stay right behind all commands and crashes; what was flushed, and what a crash keeps, is not lost; none is open behind a crash.
func TestDevicesStayRight(t *testing.T) {
	small, _ := dev.New(2, 3)
	if n := reached(t, small, 4, 1); n < 10000 {
		t.Errorf("only %d devices", n)
	}
	wide := of(open(), open(), closed(), empty(), full())
	if n := reached(t, wide, 3, 1); n < 10000 {
		t.Errorf("only %d devices", n)
	}
}

// P4.4: whatever device may be, and whatever is done with it, it may be then, too; behind a crash no zone of it is open.
func TestAllThatMayBeStayRight(t *testing.T) {
	for _, d := range handMade() {
		if !dev.Check(d) {
			continue
		}
		for _, c := range cmds(len(d.Zones)) {
			if x, e := dev.Do(d, c); !dev.Check(x) {
				t.Fatalf("Do(%+v, %+v): %+v, %d", d, c, x, e)
			}
		}
		for _, keeps := range keepings() {
			if x := dev.Crash(d, keeps...); !dev.Check(x) || dev.Open(x) != 0 {
				t.Fatalf("Crash(%+v, %v): %+v", d, keeps, x)
			}
		}
	}
}

// R4: no call changes what it is given, nor its spare room.
func TestArgumentsStay(t *testing.T) {
	for _, made := range handMade() {
		d := roomy(made)
		before := whole(d)
		data, keeps := withSpare([]byte{9}, 0xaa), withSpare([]int{1, 2}, 77)
		dev.Check(d)
		dev.Open(d)
		dev.Read(d, 0, 0, 1)
		for _, c := range calls(data, keeps) {
			c.do(d)
			if !same(whole(d), before) || !same(d, made) {
				t.Fatalf("%s changes %+v", c.name, made)
			}
		}
		if data[0] != 9 || !slices.Equal(data[1:16], bytes.Repeat([]byte{0xaa}, 15)) || !slices.Equal(keeps[:4], []int{1, 2, 77, 77}) {
			t.Fatalf("%v, %v", data, keeps)
		}
	}
}

// R4: what is answered is memory of its own, its spare room too, beside an error as well.
func TestAnswersAreNew(t *testing.T) {
	for _, made := range handMade() {
		d := roomy(made)
		before := whole(d)
		data := withSpare([]byte{9}, 0xaa)
		for _, c := range calls(data, []int{2, 2, 2}) {
			first, e := c.do(d)
			second, f := c.do(d)
			want := deep(second)
			ruin(first)
			if e != f || !same(whole(d), before) || !same(second, want) || data[0] != 9 || data[:2][1] != 0xaa {
				t.Fatalf("%s of %+v shares what it answers", c.name, made)
			}
		}
		b, _ := dev.Read(d, 1, 0, 2)
		fill(b, 0x55)
		if !same(whole(d), before) {
			t.Fatalf("Read of %+v shares what it answers", made)
		}
	}
}

// R4: no two zones of one answer share bytes, where those handed in do.
func TestZonesShareNothing(t *testing.T) {
	shared := withSpare(rising(3), 0xaa)
	right := of(times(3, api.Zone{State: api.ZClosed, Data: shared, Lasts: 3})...)
	wrong := of(times(3, api.Zone{State: 9, Data: shared})...)
	for _, d := range []api.Device{right, wrong} {
		for _, c := range calls(shared[:1], []int{2, 2, 2}) {
			x, _ := c.do(d)
			others := deep(x)
			fill(x.Zones[1].Data, 0x55)
			if !sameZone(x.Zones[0], others.Zones[0]) || !sameZone(x.Zones[2], others.Zones[2]) {
				t.Fatalf("%s: zones share bytes", c.name)
			}
		}
	}
	d, _ := dev.New(3, 4)
	d = must(t, d, api.Cmd{Kind: api.CAppend, N: 0, Data: shared}, api.Cmd{Kind: api.CAppend, N: 1, Data: shared})
	fill(d.Zones[0].Data, 0x55)
	if !bytes.Equal(d.Zones[1].Data, rising(3)) || !bytes.Equal(shared, rising(3)) {
		t.Errorf("%v, %v", d.Zones[1].Data, shared)
	}
}

// R5: spare room, and whether a list is nil, tells nothing.
func TestSpareRoomTellsNothing(t *testing.T) {
	for _, d := range handMade() {
		loose, tight := roomy(d), deep(d)
		for i, z := range tight.Zones {
			tight.Zones[i].Data = append([]byte(nil), z.Data...)
		}
		if dev.Check(loose) != dev.Check(tight) || dev.Open(loose) != dev.Open(tight) {
			t.Fatalf("Check or Open of %+v", d)
		}
		for _, c := range calls([]byte{9}, []int{1}) {
			x, e := c.do(loose)
			y, f := c.do(tight)
			if e != f || !same(x, y) {
				t.Fatalf("%s of %+v: %+v, %d; %+v, %d", c.name, d, x, e, y, f)
			}
		}
	}
}
