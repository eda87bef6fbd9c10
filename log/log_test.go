package log_test

import (
	"bytes"
	"math"
	"slices"
	"testing"

	"waggoner/api"
	"waggoner/dev"
	"waggoner/log"
	"waggoner/record"
	"waggoner/zone"
)

// size is how many bytes the zones here have, where nothing else is said.
const size = 100

// far are numbers that no zone's room is.
var far = []int{math.MinInt, math.MinInt + 1, -1 << 32, -size, -2, -1, 0, size + 1, 2 * size, 1 << 20, 1<<20 + 1, 1 << 32, 1<<32 + 1, 1<<32 + 20, math.MaxInt - 1, math.MaxInt}

// wants are numbers of bytes about which Place is asked, those at which something else begins among them.
var wants = append([]int{1, 2, 19, 20, 21, 39, 40, 41, 59, 60, 61, 79, 80, 81, 98, 99, 100}, far...)

// rec is a record of a number, of so many bytes in all, of which each is told by the number.
func rec(seq, n int) api.Record {
	return api.Record{Kind: 1 + seq&3, Seq: seq, Body: bytes.Repeat([]byte{byte(seq) + 1}, n-20)}
}

// written are records' bytes, one behind the other.
func written(l ...api.Record) []byte {
	var out []byte
	for _, r := range l {
		b, e := record.Write(r)
		if e != api.OK {
			panic("a record that may not be")
		}
		out = append(out, b...)
	}
	return out
}

// Zones of a hundred bytes, of all states.
func empty() api.Zone { return api.Zone{Resets: 2} }
func open(l ...api.Record) api.Zone {
	return api.Zone{State: api.ZOpen, Resets: 1, Data: written(l...), Lasts: 1}
}
func closed(l ...api.Record) api.Zone {
	return api.Zone{State: api.ZClosed, Data: written(l...), Lasts: 20}
}
func full(l ...api.Record) api.Zone {
	return api.Zone{State: api.ZFull, Resets: 3, Data: written(l...)}
}

// of is a device of these zones, of a hundred bytes each.
func of(zones ...api.Zone) api.Device {
	return api.Device{Size: size, Zones: zones, Left: -1, Done: 7}
}

// kinds are zones of each state, with much room, little, and none.
func kinds() []api.Zone {
	return []api.Zone{
		empty(), open(rec(5, 40)), open(rec(9, 40), rec(4, 40)), closed(rec(6, 20)), full(rec(8, 20), rec(7, 80)), full(rec(5, 30)),
	}
}

// some are devices of all that so many zones of these kinds make.
func some(zones int) []api.Device {
	all := [][]api.Zone{nil}
	for range zones {
		var longer [][]api.Zone
		for _, l := range all {
			for _, z := range kinds() {
				longer = append(longer, append(slices.Clone(l), z))
			}
		}
		all = longer
	}
	var out []api.Device
	for _, l := range all {
		out = append(out, of(l...))
	}
	return out
}

// rightDevices are some that may be: also with more open zones than commands make, and at the sizes' edges.
func rightDevices() []api.Device {
	out := slices.Concat(some(1), some(2), some(3))
	a, b := open(rec(1, 60)), open(rec(2, 80))
	return append(out,
		of(a, b, a, empty()), of(empty(), b, a, b), of(b, b, b, empty()), of(b, b, b, full(rec(3, 100))), of(b, empty(), b, empty(), b),
		of(full(rec(3, 100)), closed(rec(3, 20)), b, b, empty(), b, empty()), of(b, b, b, a), of(b, b, b, b, empty()), of(b, a, b, b, b, empty(), empty()),
		of(slices.Repeat([]api.Zone{empty()}, 64)...), of(slices.Repeat([]api.Zone{b}, 64)...), of(append(slices.Repeat([]api.Zone{closed(rec(1, 20))}, 63), empty())...),
		api.Device{Size: 1, Zones: []api.Zone{{}, {}}, Left: -1}, api.Device{Size: 19, Zones: []api.Zone{{}}, Left: -1}, api.Device{Size: 20, Zones: []api.Zone{{}, {}}, Left: -1},
		api.Device{Size: 1 << 20, Zones: []api.Zone{{}, a, {}}, Left: -1},
	)
}

// wrongDevices are some that may not be, each for one thing alone.
func wrongDevices() []api.Device {
	out := []api.Device{{}, of(), of(slices.Repeat([]api.Zone{empty()}, 65)...)}
	for _, n := range []int{0, -1, math.MinInt, 1<<20 + 1, math.MaxInt} {
		out = append(out, api.Device{Size: n, Zones: []api.Zone{empty(), empty()}, Left: -1})
	}
	out = append(out, api.Device{Size: 59, Zones: []api.Zone{empty(), open(rec(1, 60))}, Left: -1})
	for _, z := range []api.Zone{{State: 4}, {State: -1}, {Resets: -1}, {Lasts: 1}, {Data: []byte{1}}, {State: api.ZOpen}, {State: api.ZFull, Lasts: 1}, {State: api.ZOpen, Data: make([]byte, size)}} {
		out = append(out, of(z), of(z, empty(), open(rec(1, 40))), of(open(rec(1, 40)), empty(), z))
	}
	return out
}

// limited are devices of both kinds, that go down behind so many commands, or are.
func limited() []api.Device {
	var out []api.Device
	for _, d := range append(rightDevices(), wrongDevices()...) {
		out = append(out, d)
		for left := range 4 {
			d.Left = left
			out = append(out, d)
		}
		d.Left, d.Down = 5, true
		out = append(out, d)
	}
	return out
}

// wrongRecords are some that may not be.
func wrongRecords() []api.Record {
	return []api.Record{{}, {Kind: 6}, {Kind: -1}, {Kind: 1, Seq: -1}, {Kind: 1, Seq: 1 << 62}, {Kind: 1, Body: make([]byte, 4097)}}
}

// lists are what is appended: none, one, many, of many sizes, and ones with records that may not be, or do not fit.
func lists() [][]api.Record {
	out := [][]api.Record{
		nil, {}, {rec(1, 20)}, {rec(1, 60)}, {rec(1, 100)}, {rec(1, 101)}, {rec(1, 4116)},
		{rec(3, 20), rec(2, 20), rec(1, 20)}, {rec(1, 60), rec(2, 60), rec(3, 60), rec(4, 40)}, {rec(1, 99), rec(1, 99), rec(1, 100), rec(0, 20)},
		{rec(1, 80), rec(2, 80), rec(3, 80), rec(4, 80), rec(5, 80), rec(6, 20), rec(7, 20)},
		{rec(1, 30), rec(2, 101), rec(3, 30)}, {rec(math.MaxInt>>1, 20), rec(0, 20)},
	}
	for _, r := range wrongRecords() {
		out = append(out, []api.Record{r}, []api.Record{rec(1, 50), r, rec(2, 50)})
	}
	return out
}

// sameRecord tells whether two records are alike.
func sameRecord(a, b api.Record) bool {
	return a.Kind == b.Kind && a.Seq == b.Seq && bytes.Equal(a.Body, b.Body)
}

// sameFound tells whether two records that were found are alike, and stand at one place.
func sameFound(a, b api.Found) bool {
	return a.Zone == b.Zone && a.At == b.At && sameRecord(a.Record, b.Record)
}

// sameCmd tells whether two commands are alike.
func sameCmd(a, b api.Cmd) bool {
	return a.Kind == b.Kind && a.N == b.N && bytes.Equal(a.Data, b.Data)
}

// sameZone tells whether two zones are alike.
func sameZone(a, b api.Zone) bool {
	return a.State == b.State && a.Resets == b.Resets && a.Lasts == b.Lasts && bytes.Equal(a.Data, b.Data)
}

// same tells whether two devices are alike.
func same(a, b api.Device) bool {
	return a.Size == b.Size && a.Left == b.Left && a.Down == b.Down && a.Done == b.Done && slices.EqualFunc(a.Zones, b.Zones, sameZone)
}

// deep is a copy of a device.
func deep(d api.Device) api.Device {
	d.Zones = slices.Clone(d.Zones)
	for i := range d.Zones {
		d.Zones[i].Data = slices.Clone(d.Zones[i].Data)
	}
	return d
}

// placed is P6.1's Place, word by word: the zone, that which is finished (-1: none), and the error.
func placed(d api.Device, n int) (int, int, api.Errno) {
	if !dev.Check(d) || n <= 0 || d.Size < n {
		return 0, -1, api.ErrArg
	}
	opened, firstOpen, firstEmpty := 0, -1, -1
	for i := len(d.Zones) - 1; i >= 0; i-- {
		if d.Zones[i].State == 1 {
			opened++
			firstOpen = i
		}
		if d.Zones[i].State == 0 {
			firstEmpty = i
		}
	}
	for i, z := range d.Zones {
		if z.State == 1 && len(z.Data)+n <= d.Size {
			return i, -1, api.OK
		}
	}
	if firstEmpty == -1 {
		return 0, -1, api.ErrSpace
	}
	if opened >= 3 {
		return firstEmpty, firstOpen, api.OK
	}
	return firstEmpty, -1, api.OK
}

// appended is P6.2's Append, step by step.
func appended(d api.Device, l []api.Record) (api.Device, []complex128, api.Errno) {
	var places []complex128
	for _, r := range l {
		b, e := record.Write(r)
		if e != api.OK {
			return d, places, e
		}
		n, finished, e := placed(d, len(b))
		if e != api.OK {
			return d, places, e
		}
		if finished >= 0 {
			if d, e = dev.Do(d, api.Cmd{Kind: 3, N: finished}); e != api.OK {
				return d, places, e
			}
		}
		ahead := len(d.Zones[n].Data)
		if d, e = dev.Do(d, api.Cmd{Kind: 1, N: n, Data: b}); e != api.OK {
			return d, places, e
		}
		places = append(places, complex(float64(n), 0)+complex(0, 1)*complex(float64(ahead), 0))
	}
	return d, places, api.OK
}

// ahead tells whether a record that was found is told ahead of another one, by P6.3.
func ahead(a, b api.Found) bool {
	if a.Record.Seq != b.Record.Seq {
		return a.Record.Seq < b.Record.Seq
	}
	if a.Zone != b.Zone {
		return a.Zone < b.Zone
	}
	return a.At < b.At
}

// found is P6.3's All of a device that may be, each record put in where it stands.
func found(d api.Device) []api.Found {
	var out []api.Found
	for n := len(d.Zones) - 1; n >= 0; n-- {
		l, at := record.Scan(d.Zones[n].Data)
		for i, r := range l {
			f := api.Found{Record: r, Zone: n, At: at[i]}
			k := 0
			for k < len(out) && ahead(out[k], f) {
				k++
			}
			out = slices.Insert(out, k, f)
		}
	}
	return out
}

// ran is P6.3's Run, by asking the whole list for each number.
func ran(l []api.Found, from int) []api.Record {
	var out []api.Record
	for {
		k := slices.IndexFunc(l, func(f api.Found) bool { return f.Record.Seq == from })
		if k < 0 {
			return out
		}
		out = append(out, l[k].Record)
		if from == math.MaxInt {
			return out
		}
		from++
	}
}

// isPlaced says if Place answers something else. A finished of -1 is no command.
func isPlaced(t *testing.T, what string, d api.Device, n, want, finished int, f api.Errno) {
	t.Helper()
	var commands []api.Cmd
	if finished >= 0 {
		commands = []api.Cmd{{Kind: 3, N: finished}}
	}
	if x, l, e := log.Place(d, n); x != want || !slices.EqualFunc(l, commands, sameCmd) || e != f {
		t.Errorf("%s: Place of %d bytes: %d, %v, %d; not %d, %v, %d", what, n, x, l, e, want, commands, f)
	}
}

// isAppended says if Append answers something else.
func isAppended(t *testing.T, what string, d api.Device, l []api.Record, want api.Device, places []complex128, f api.Errno) {
	t.Helper()
	if x, p, e := log.Append(d, l...); !same(x, want) || !slices.Equal(p, places) || e != f {
		t.Errorf("%s: Append: %+v, %v, %d; not %+v, %v, %d", what, x, p, e, want, places, f)
	}
}

// isAll says if All answers something else than these, and OK.
func isAll(t *testing.T, what string, d api.Device, want ...api.Found) {
	t.Helper()
	if l, e := log.All(d); e != api.OK || !slices.EqualFunc(l, want, sameFound) {
		t.Errorf("%s: All: %v, %d; not %v", what, l, e, want)
	}
}

// mustAppend is a device with these records behind those that it has.
func mustAppend(t *testing.T, d api.Device, l ...api.Record) (api.Device, []complex128) {
	t.Helper()
	x, p, e := log.Append(d, l...)
	if e != api.OK || len(p) != len(l) {
		t.Fatalf("Append: %v, %d", p, e)
	}
	return x, p
}

// must does a command that is OK.
func must(t *testing.T, d api.Device, c api.Cmd) api.Device {
	t.Helper()
	x, e := dev.Do(d, c)
	if e != api.OK {
		t.Fatalf("%+v: %d", c, e)
	}
	return x
}

// made is a new device.
func made(t *testing.T, zones, size int) api.Device {
	t.Helper()
	d, e := dev.New(zones, size)
	if e != api.OK {
		t.Fatal(e)
	}
	return d
}

// P6.1 to P6.3: the numbers of the chapter are api's.
func TestLimits(t *testing.T) {
	if api.MaxOpen != 3 || api.ErrArg != 1 || api.ErrSpace != 60 || api.CAppend != 1 || api.CFinish != 3 {
		t.Errorf("%d, %d, %d, %d, %d", api.MaxOpen, api.ErrArg, api.ErrSpace, api.CAppend, api.CFinish)
	}
}

// P6.2: the chapter's example.
func TestExample(t *testing.T) {
	d, p, e := log.Append(made(t, 2, 100), rec(7, 60), rec(7, 60))
	if e != api.OK || !slices.Equal(p, []complex128{0, 1}) {
		t.Errorf("%v, %d", p, e)
	}
	for n, z := range d.Zones {
		if !sameZone(z, api.Zone{State: api.ZOpen, Data: written(rec(7, 60))}) {
			t.Errorf("zone %d: %+v", n, z)
		}
	}
}

// P6.1, R2: devices that may not be, at all numbers of bytes; 0, and no command, beside the error.
func TestPlaceOfWrongDevices(t *testing.T) {
	for _, d := range wrongDevices() {
		for _, n := range wants {
			isPlaced(t, "a device that may not be", d, n, 0, -1, api.ErrArg)
		}
	}
}

// P6.1, R2: as many bytes as no zone has.
func TestPlaceOfWrongNumbers(t *testing.T) {
	for _, d := range append(some(2), of(open(rec(1, 80)), open(rec(1, 80)), open(rec(1, 80)), empty())) {
		for _, n := range far {
			isPlaced(t, "a number that may not be", d, n, 0, -1, api.ErrArg)
		}
	}
	// What there is no room for is told behind that.
	isPlaced(t, "no room, and too many bytes", of(full(rec(1, 100))), size+1, 0, -1, api.ErrArg)
	isPlaced(t, "no room, and no byte", of(full(rec(1, 100))), 0, 0, -1, api.ErrArg)
}

// P6.1: the Size, and one beyond it, at the least and the greatest Size.
func TestPlaceOfSizes(t *testing.T) {
	for _, n := range []int{1, 2, 19, 20, 100, 4116, 1<<20 - 1, 1 << 20} {
		d := made(t, 2, n)
		isPlaced(t, "one byte", d, 1, 0, -1, api.OK)
		isPlaced(t, "the Size", d, n, 0, -1, api.OK)
		isPlaced(t, "one beyond the Size", d, n+1, 0, -1, api.ErrArg)
		isPlaced(t, "no byte", d, 0, 0, -1, api.ErrArg)
	}
}

// P6.1: the first open zone with room, by number, whatever empty ones stand ahead of it.
func TestPlaceOfOpenZones(t *testing.T) {
	forty, eighty := open(rec(1, 40)), open(rec(1, 80))
	isPlaced(t, "just enough room", of(empty(), forty), 60, 1, -1, api.OK)
	isPlaced(t, "one byte too little", of(forty, empty()), 61, 1, -1, api.OK)
	isPlaced(t, "one byte too little, an empty one ahead", of(empty(), forty), 61, 0, -1, api.OK)
	isPlaced(t, "two that have room", of(full(rec(1, 100)), forty, empty(), forty), 60, 1, -1, api.OK)
	isPlaced(t, "the second one has room", of(eighty, empty(), forty), 21, 2, -1, api.OK)
	isPlaced(t, "the first one has just enough", of(eighty, empty(), forty), 20, 0, -1, api.OK)
	isPlaced(t, "three open, the last one with room", of(eighty, eighty, forty, empty()), 60, 2, -1, api.OK)
	isPlaced(t, "three open, none empty", of(eighty, eighty, forty), 60, 2, -1, api.OK)
	isPlaced(t, "one byte of room", of(empty(), open(rec(1, 99))), 1, 1, -1, api.OK)
	isPlaced(t, "one byte of room, two asked", of(empty(), open(rec(1, 99))), 2, 0, -1, api.OK)
}

// P6.1: neither a closed zone, though dev appends to it, nor a finished one, though it has few bytes, is a place.
func TestPlaceIsOpenOrEmpty(t *testing.T) {
	isPlaced(t, "a closed one ahead", of(closed(rec(1, 20)), empty()), 20, 1, -1, api.OK)
	isPlaced(t, "a closed one alone", of(closed(rec(1, 20))), 20, 0, -1, api.ErrSpace)
	isPlaced(t, "a finished one ahead", of(full(rec(1, 20)), empty()), 20, 1, -1, api.OK)
	isPlaced(t, "a finished one alone", of(full(rec(1, 20))), 20, 0, -1, api.ErrSpace)
}

// P6.1: the first empty zone, if no open one has room; a command just if three are open, or more.
func TestPlaceOfEmptyZones(t *testing.T) {
	o, f, c := open(rec(1, 80)), full(rec(1, 100)), closed(rec(1, 20))
	isPlaced(t, "none open", of(f, empty(), empty()), 100, 1, -1, api.OK)
	isPlaced(t, "one open", of(o, f, empty(), empty()), 21, 2, -1, api.OK)
	isPlaced(t, "two open", of(o, o, empty()), 21, 2, -1, api.OK)
	isPlaced(t, "two open, an empty one ahead", of(empty(), o, o, empty()), 21, 0, -1, api.OK)
	isPlaced(t, "three open", of(o, o, o, empty()), 21, 3, 0, api.OK)
	isPlaced(t, "three open, behind others", of(f, c, o, empty(), o, o, empty()), 21, 3, 2, api.OK)
	isPlaced(t, "three open, an empty one ahead", of(empty(), o, o, o), 21, 0, 1, api.OK)
	isPlaced(t, "three open, of other rooms", of(f, open(rec(1, 60)), open(rec(1, 99)), o, empty()), 41, 4, 1, api.OK)
	isPlaced(t, "four open", of(o, o, o, o, empty()), 21, 4, 0, api.OK)
	isPlaced(t, "sixty-three open", of(append(slices.Repeat([]api.Zone{o}, 63), empty())...), 21, 63, 0, api.OK)
	isPlaced(t, "the last one alone empty", of(append(slices.Repeat([]api.Zone{f}, 63), empty())...), 21, 63, -1, api.OK)
}

// P6.1, R2: no zone is empty, and none that is open has room: 0, and no command, also where three are open.
func TestPlaceWithoutRoom(t *testing.T) {
	o, f, c := open(rec(1, 80)), full(rec(1, 100)), closed(rec(1, 20))
	for _, d := range []api.Device{of(f), of(c), of(o), of(f, c, o), of(o, o), of(f, o, o, o), of(o, o, o, o), of(f, f, o, o, c, o), of(slices.Repeat([]api.Zone{o}, 64)...)} {
		isPlaced(t, "no room", d, 21, 0, -1, api.ErrSpace)
		isPlaced(t, "no room for the Size", d, size, 0, -1, api.ErrSpace)
	}
}

// P6.1: Place of all devices, at all numbers; nothing hangs on whether a device is Down, on Left, or on Done.
func TestPlace(t *testing.T) {
	seen := map[api.Errno]int{}
	finishing := 0
	for _, d := range append(limited(), some(4)...) {
		for _, n := range append(wants, d.Size-1, d.Size, d.Size+1) {
			want, finished, f := placed(d, n)
			seen[f]++
			if finished >= 0 {
				finishing++
			}
			isPlaced(t, "all", d, n, want, finished, f)
		}
	}
	if seen[api.OK] < 1000 || seen[api.ErrArg] < 1000 || seen[api.ErrSpace] < 1000 || finishing < 100 {
		t.Errorf("%v, %d", seen, finishing)
	}
}

// P6.1: devices with no, some, and all zones empty, also such as may not be.
func TestEmpty(t *testing.T) {
	o, c, f := open(rec(1, 80)), closed(rec(1, 20)), full(rec(1, 100))
	for _, x := range []struct {
		d    api.Device
		want int
	}{
		{of(o, c, f), 0}, {of(o), 0}, {of(c), 0}, {of(f), 0}, {of(full(rec(1, 20))), 0}, {of(empty()), 1}, {of(o, empty(), c, empty(), f), 2}, {of(empty(), f), 1}, {of(f, empty()), 1},
		{of(slices.Repeat([]api.Zone{empty()}, 64)...), 64}, {of(slices.Repeat([]api.Zone{empty()}, 65)...), 65}, {made(t, 9, 8192), 9}, {api.Device{}, 0}, {of(), 0},
		{api.Device{Zones: []api.Zone{{}, {State: 4}, {State: -1}}}, 1}, {api.Device{Zones: []api.Zone{{State: api.ZFull}, {State: api.ZOpen}, {State: api.ZClosed}}}, 0},
	} {
		if n := log.Empty(x.d); n != x.want {
			t.Errorf("Empty(%+v): %d, not %d", x.d, n, x.want)
		}
	}
	for _, d := range limited() {
		want := 0
		for _, z := range d.Zones {
			if z.State == 0 {
				want++
			}
		}
		if n := log.Empty(d); n != want {
			t.Errorf("Empty(%+v): %d, not %d", d, n, want)
		}
	}
}

// P6.1, P6.2: fewer are empty, the more is appended.
func TestEmptyBehindAppends(t *testing.T) {
	d := made(t, 5, size)
	for i := range 5 {
		if n := log.Empty(d); n != 5-i {
			t.Errorf("%d, behind %d", n, i)
		}
		d, _ = mustAppend(t, d, rec(i, 80))
	}
	d = must(t, d, api.Cmd{Kind: api.CReset, N: 3})
	if n := log.Empty(d); n != 1 {
		t.Errorf("%d behind a reset", n)
	}
}

// P6.2: Append of all lists to all devices, and to those that it makes.
func TestAppend(t *testing.T) {
	seen := map[api.Errno]int{}
	for _, d := range limited() {
		for _, l := range lists() {
			want, places, f := appended(d, l)
			seen[f]++
			isAppended(t, "all", d, l, want, places, f)
		}
	}
	for _, e := range []api.Errno{api.OK, api.ErrArg, api.ErrSpace, api.ErrDown, api.ErrZone, api.ErrRecord} {
		if seen[e] < 10 {
			t.Errorf("%d is told %d times", e, seen[e])
		}
	}
}

// P6.2: of no record nothing is done, whatever the device is.
func TestAppendOfNone(t *testing.T) {
	for _, d := range limited() {
		isAppended(t, "nil", d, nil, d, nil, api.OK)
		isAppended(t, "none", d, []api.Record{}, d, nil, api.OK)
	}
}

// P6.2: each record is its bytes, one command each, and one more for each zone that is finished.
func TestAppendCounts(t *testing.T) {
	d := made(t, 5, size)
	l := []api.Record{rec(10, 60), rec(11, 40), rec(12, 60), rec(13, 60), rec(14, 60), rec(15, 60), rec(16, 40)}
	want := api.Device{Size: size, Left: -1, Done: 8, Zones: []api.Zone{
		{State: api.ZFull, Data: written(rec(10, 60), rec(11, 40))},
		{State: api.ZFull, Data: written(rec(12, 60))},
		{State: api.ZFull, Data: written(rec(13, 60), rec(16, 40))},
		{State: api.ZOpen, Data: written(rec(14, 60))},
		{State: api.ZOpen, Data: written(rec(15, 60))},
	}}
	isAppended(t, "seven", d, l, want, []complex128{0, 60i, 1, 2, 3, 4, 2 + 60i}, api.OK)
	// One by one they make the same.
	for i, r := range l {
		d, _ = mustAppend(t, d, r)
		if d.Done < i+1 {
			t.Errorf("%d commands behind %d records", d.Done, i+1)
		}
	}
	if !same(d, want) {
		t.Errorf("one by one: %+v", d)
	}
}

// P6.2: a place's parts are the zone, and the bytes ahead, also at the greatest ones.
func TestPlacesAreExact(t *testing.T) {
	zones := slices.Repeat([]api.Zone{{State: api.ZFull, Data: []byte{1}}}, 63)
	last := api.Zone{State: api.ZOpen, Data: make([]byte, 1<<20-20)}
	d := api.Device{Size: 1 << 20, Zones: append(zones, last), Left: -1}
	_, p, e := log.Append(d, rec(1, 20))
	if e != api.OK || len(p) != 1 || real(p[0]) != 63 || imag(p[0]) != 1048556 {
		t.Errorf("%v, %d", p, e)
	}
}

// P6.2: a record that may not be ends it, ahead of all that the device says.
func TestAppendOfWrongRecords(t *testing.T) {
	for _, r := range wrongRecords() {
		for _, d := range limited() {
			isAppended(t, "one that may not be", d, []api.Record{r, rec(1, 20)}, d, nil, api.ErrRecord)
		}
		d := made(t, 2, size)
		one, p := mustAppend(t, d, rec(1, 20))
		isAppended(t, "behind one", d, []api.Record{rec(1, 20), r, rec(2, 20)}, one, p, api.ErrRecord)
	}
}

// P6.2, R3: a device that may not be, and a record of more bytes than its Size, are ErrArg; what was appended ahead stays.
func TestAppendOfWhatNoZoneTakes(t *testing.T) {
	for _, d := range wrongDevices() {
		isAppended(t, "a device that may not be", d, []api.Record{rec(1, 20)}, d, nil, api.ErrArg)
	}
	d := made(t, 3, size)
	isAppended(t, "one beyond the Size", d, []api.Record{rec(1, size+1)}, d, nil, api.ErrArg)
	isAppended(t, "the greatest one", d, []api.Record{rec(1, 4116)}, d, nil, api.ErrArg)
	one, p := mustAppend(t, d, rec(1, size))
	isAppended(t, "one beyond the Size, behind one", d, []api.Record{rec(1, size), rec(2, size+1), rec(3, 20)}, one, p, api.ErrArg)
	small := made(t, 3, 19)
	isAppended(t, "no record fits", small, []api.Record{rec(1, 20)}, small, nil, api.ErrArg)
}

// P6.2: where there is no room any more, the device and the places are those of what was appended.
func TestAppendWithoutRoom(t *testing.T) {
	d := made(t, 2, size)
	l := []api.Record{rec(1, 60), rec(2, 60), rec(3, 60), rec(4, 20)}
	want := api.Device{Size: size, Left: -1, Done: 2, Zones: []api.Zone{{State: api.ZOpen, Data: written(l[0])}, {State: api.ZOpen, Data: written(l[1])}}}
	isAppended(t, "the third one", d, l, want, []complex128{0, 1}, api.ErrSpace)
	// Three are open, and none is empty: none is finished.
	o := open(rec(1, 80))
	isAppended(t, "three open", of(o, o, o), []api.Record{rec(2, 60)}, of(o, o, o), nil, api.ErrSpace)
	isAppended(t, "all full", of(full(rec(1, 20))), []api.Record{rec(2, 20)}, of(full(rec(1, 20))), nil, api.ErrSpace)
}

// P6.2: a device goes down midway, at each command, also between the two that one record takes.
func TestAppendGoesDown(t *testing.T) {
	l := []api.Record{rec(1, 60), rec(2, 60), rec(3, 60), rec(4, 60), rec(5, 60)}
	for left, c := range []struct {
		places []complex128
		states []int
	}{
		{nil, []int{0, 0, 0, 0, 0}},
		{[]complex128{0}, []int{1, 0, 0, 0, 0}},
		{[]complex128{0, 1}, []int{1, 1, 0, 0, 0}},
		{[]complex128{0, 1, 2}, []int{1, 1, 1, 0, 0}},
		{[]complex128{0, 1, 2}, []int{3, 1, 1, 0, 0}},
		{[]complex128{0, 1, 2, 3}, []int{3, 1, 1, 1, 0}},
		{[]complex128{0, 1, 2, 3}, []int{3, 3, 1, 1, 0}},
		{[]complex128{0, 1, 2, 3, 4}, []int{3, 3, 1, 1, 1}},
	} {
		want := api.Device{Size: size, Down: left < 7, Done: left}
		for i, state := range c.states {
			z := api.Zone{State: state}
			if state != 0 {
				z.Data = written(l[i])
			}
			want.Zones = append(want.Zones, z)
		}
		f := api.ErrDown
		if left == 7 {
			f = api.OK
		}
		isAppended(t, "down", dev.Limit(made(t, 5, size), left), l, want, c.places, f)
	}
	d := made(t, 2, size)
	d.Down = true
	isAppended(t, "down already", d, l, d, nil, api.ErrDown)
	d.Zones[0], d.Zones[1] = full(rec(1, 100)), full(rec(1, 100))
	isAppended(t, "down, and no room: nothing is done that could tell", d, l, d, nil, api.ErrSpace)
}

// P6.2: of a device with more than three open zones one is finished, and the append is dev's ErrZone still.
func TestAppendWithTooManyOpen(t *testing.T) {
	o := open(rec(1, 80))
	want := of(o, o, o, o, empty())
	want.Zones[0].State = api.ZFull
	want.Done += 2
	isAppended(t, "four open", of(o, o, o, o, empty()), []api.Record{rec(2, 60), rec(3, 20)}, want, nil, api.ErrZone)
}

// P6.3, R2: devices that may not be: ErrArg, and none.
func TestAllOfWrongDevices(t *testing.T) {
	for _, d := range append(wrongDevices(), of(full(rec(1, 20)), api.Zone{State: 4, Data: written(rec(2, 20))})) {
		if l, e := log.All(d); e != api.ErrArg || len(l) != 0 {
			t.Errorf("All(%+v): %v, %d", d, l, e)
		}
	}
}

// P6.3: devices without records.
func TestAllOfNone(t *testing.T) {
	isAll(t, "one zone", of(empty()))
	isAll(t, "new", made(t, 64, 8192))
	isAll(t, "no bytes, but full", of(api.Zone{State: api.ZFull}))
	isAll(t, "bytes that are none", of(api.Zone{State: api.ZFull, Data: make([]byte, 60)}, api.Zone{State: api.ZOpen, Data: []byte{1}}))
	isAll(t, "a record that is cut off", of(api.Zone{State: api.ZClosed, Data: written(rec(1, 60))[:59]}))
}

// P6.3: by number, whatever zones they stand in, of whatever state, on a device that is down too.
func TestAllInOrder(t *testing.T) {
	d := of(open(rec(9, 20), rec(3, 30), rec(5, 20)), empty(), closed(rec(4, 20)), full(rec(api.MaxSeq, 40), rec(0, 60)), full(rec(8, 20)))
	d.Down, d.Left = true, 0
	isAll(t, "by number", d,
		api.Found{Record: rec(0, 60), Zone: 3, At: 40}, api.Found{Record: rec(3, 30), Zone: 0, At: 20}, api.Found{Record: rec(4, 20), Zone: 2},
		api.Found{Record: rec(5, 20), Zone: 0, At: 50}, api.Found{Record: rec(8, 20), Zone: 4}, api.Found{Record: rec(9, 20), Zone: 0},
		api.Found{Record: rec(api.MaxSeq, 40), Zone: 3})
}

// P6.3: of one number by zones, then by bytes ahead, none left out.
func TestAllOfOneNumber(t *testing.T) {
	d := of(full(rec(7, 30), rec(2, 20), rec(7, 20)), closed(rec(2, 40), rec(7, 20)), full(rec(7, 20), rec(7, 20), rec(2, 20)))
	isAll(t, "two numbers", d,
		api.Found{Record: rec(2, 20), Zone: 0, At: 30}, api.Found{Record: rec(2, 40), Zone: 1}, api.Found{Record: rec(2, 20), Zone: 2, At: 40},
		api.Found{Record: rec(7, 30), Zone: 0}, api.Found{Record: rec(7, 20), Zone: 0, At: 50}, api.Found{Record: rec(7, 20), Zone: 1, At: 40},
		api.Found{Record: rec(7, 20), Zone: 2}, api.Found{Record: rec(7, 20), Zone: 2, At: 20})
	// So many that a sort which is not stable would mix them.
	var want []api.Found
	var zones []api.Zone
	for n := range 64 {
		zones = append(zones, full(rec(1, 20), rec(1, 20), rec(1, 20), rec(1, 20), rec(1, 20)))
		for i := range 5 {
			want = append(want, api.Found{Record: rec(1, 20), Zone: n, At: 20 * i})
		}
	}
	isAll(t, "one number alone", of(zones...), want...)
}

// P6.3: bytes that are no record end a zone's scan, not that of others.
func TestAllWithOtherBytes(t *testing.T) {
	a, b := written(rec(1, 30)), written(rec(2, 30))
	turned := slices.Clone(a)
	turned[29] ^= 1
	zoneOf := func(l ...[]byte) api.Zone { return api.Zone{State: api.ZClosed, Data: slices.Concat(l...)} }
	d := of(zoneOf(a, []byte{0}, b), zoneOf([]byte{0}, a), zoneOf(b, turned, a), zoneOf(turned), zoneOf(a, b[:29]), full(rec(0, 20)))
	isAll(t, "other bytes", d, api.Found{Record: rec(0, 20), Zone: 5}, api.Found{Record: rec(1, 30), Zone: 0}, api.Found{Record: rec(1, 30), Zone: 4}, api.Found{Record: rec(2, 30), Zone: 2})
}

// P6.3: All of all devices.
func TestAll(t *testing.T) {
	n := 0
	for _, d := range append(limited(), some(4)...) {
		if !dev.Check(d) {
			continue
		}
		want := found(d)
		n += len(want)
		isAll(t, "all", d, want...)
	}
	if n < 1000 {
		t.Errorf("%d records", n)
	}
}

// at is a record of a number, that stands at a place by which it is told.
func at(seq, place int) api.Found {
	return api.Found{Record: api.Record{Kind: 1, Seq: seq, Body: []byte{byte(place), byte(seq)}}, Zone: place, At: place}
}

// isRun says if Run answers others than those of the list at these places.
func isRun(t *testing.T, l []api.Found, from int, places ...int) {
	t.Helper()
	var want []api.Record
	for _, k := range places {
		want = append(want, l[k].Record)
	}
	if r := log.Run(l, from); !slices.EqualFunc(r, want, sameRecord) {
		t.Errorf("Run from %d: %v, not %v", from, r, want)
	}
}

// P6.3: from numbers that are there, and that are not, up to a gap.
func TestRun(t *testing.T) {
	l := []api.Found{at(3, 0), at(4, 1), at(5, 2), at(7, 3), at(9, 4), at(10, 5)}
	isRun(t, l, 3, 0, 1, 2)
	isRun(t, l, 4, 1, 2)
	isRun(t, l, 5, 2)
	isRun(t, l, 7, 3)
	isRun(t, l, 9, 4, 5)
	isRun(t, l, 10, 5)
	for _, from := range []int{math.MinInt, -3, -1, 0, 1, 2, 6, 8, 11, 12, 1<<32 + 3, math.MaxInt} {
		isRun(t, l, from)
	}
	isRun(t, nil, 0)
	isRun(t, []api.Found{}, 3)
	isRun(t, []api.Found{at(0, 0)}, 0, 0)
}

// P6.3: of one number the first one of the list, whatever zone it stands in.
func TestRunOfOneNumber(t *testing.T) {
	l := []api.Found{at(3, 9), at(3, 1), at(4, 8), at(4, 2), at(4, 0), at(5, 7), at(5, 7)}
	isRun(t, l, 3, 0, 2, 5)
	isRun(t, l, 4, 2, 5)
	isRun(t, l, 5, 5)
}

// P6.3: of lists in whatever order, with numbers that come twice.
func TestRunOfAnyOrder(t *testing.T) {
	l := []api.Found{at(5, 0), at(3, 1), at(9, 2), at(4, 3), at(3, 4), at(5, 5), at(6, 6), at(0, 7)}
	isRun(t, l, 3, 1, 3, 0, 6)
	isRun(t, l, 0, 7)
	isRun(t, l, 9, 2)
	isRun(t, l, 6, 6)
	seed := uint32(1)
	for range 2000 {
		var l []api.Found
		for i := range int(seed>>20) % 12 {
			seed = seed*1664525 + 1013904223
			l = append(l, at(int(seed>>24)%8, i))
		}
		seed = seed*1664525 + 1013904223
		for from := -1; from < 9; from++ {
			if r, want := log.Run(l, from), ran(l, from); !slices.EqualFunc(r, want, sameRecord) {
				t.Fatalf("Run(%v, %d): %v, not %v", l, from, r, want)
			}
		}
	}
}

// P6.3, R1: hand-made numbers, below 0 and at an int's ends: nothing follows the greatest one.
func TestRunOfHandMadeNumbers(t *testing.T) {
	l := []api.Found{at(math.MinInt, 0), at(math.MaxInt, 1), at(math.MaxInt-1, 2), at(-1, 3), at(0, 4), at(math.MinInt+1, 5), at(-2, 6), at(api.MaxSeq, 7), at(api.MaxSeq+1, 8)}
	isRun(t, l, math.MaxInt, 1)
	isRun(t, l, math.MaxInt-1, 2, 1)
	isRun(t, l, math.MinInt, 0, 5)
	isRun(t, l, -2, 6, 3, 4)
	isRun(t, l, api.MaxSeq, 7, 8)
	// What a record is otherwise nobody asks.
	odd := []api.Found{{Record: api.Record{Kind: -4, Seq: 2, Body: make([]byte, 5000)}, Zone: -1, At: math.MinInt}, {Record: api.Record{Seq: 3}}}
	isRun(t, odd, 2, 0, 1)
}

// P6.2, P6.3: what was appended, in whatever order, is told by number, and runs.
func TestRunOfWhatWasAppended(t *testing.T) {
	d, _ := mustAppend(t, made(t, 9, size), rec(4, 60), rec(2, 70), rec(6, 40), rec(3, 80), rec(2, 30), rec(5, 90), rec(9, 20))
	all, e := log.All(d)
	if e != api.OK || len(all) != 7 {
		t.Fatalf("%v, %d", all, e)
	}
	// Both of number 2 stand in one zone: the one ahead in it counts.
	want := []api.Record{rec(2, 70), rec(3, 80), rec(4, 60), rec(5, 90), rec(6, 40)}
	if r := log.Run(all, 2); !slices.EqualFunc(r, want, sameRecord) {
		t.Errorf("%v", r)
	}
}

// history is a device, and what was appended to it and is not lost.
type history struct {
	d    api.Device
	kept []api.Found
	seed uint32
}

// pick is a number below n, the same ones each time.
func (h *history) pick(n int) int {
	h.seed = h.seed*1664525 + 1013904223
	return int(h.seed>>16) % n
}

// keep leaves those alone that are not lost.
func (h *history) keep(stays func(f api.Found) bool) {
	h.kept = slices.DeleteFunc(h.kept, func(f api.Found) bool { return !stays(f) })
}

// append appends some records; those with a place are there, also beside an error.
func (h *history) append(t *testing.T) {
	var l []api.Record
	for range 1 + h.pick(4) {
		l = append(l, rec(h.pick(40), 20+h.pick(81)))
	}
	x, places, e := log.Append(h.d, l...)
	if len(places) > len(l) || (e == api.OK) != (len(places) == len(l)) {
		t.Fatalf("%d records, %v, %d", len(l), places, e)
	}
	for i, p := range places {
		h.kept = append(h.kept, api.Found{Record: l[i], Zone: int(real(p)), At: int(imag(p))})
	}
	h.d = x
}

// reset empties a zone, and loses what stands there.
func (h *history) reset(t *testing.T) {
	n := h.pick(len(h.d.Zones))
	h.d = must(t, h.d, api.Cmd{Kind: api.CReset, N: n})
	h.keep(func(f api.Found) bool { return f.Zone != n })
}

// crash loses what zones do not keep, of what did not last.
func (h *history) crash() {
	var keeps []int
	for range h.d.Zones {
		keeps = append(keeps, h.pick(130))
	}
	ends := make([]int, len(keeps))
	for i, z := range h.d.Zones {
		ends[i] = max(z.Lasts, keeps[i])
	}
	h.d = dev.Crash(h.d, keeps...)
	h.keep(func(f api.Found) bool { return f.At+20+len(f.Record.Body) <= ends[f.Zone] })
}

// step does something with the device.
func (h *history) step(t *testing.T) {
	switch k := h.pick(20); {
	case k < 11:
		h.append(t)
	case k < 15:
		h.reset(t)
	case k < 17:
		h.d = must(t, h.d, api.Cmd{Kind: api.CFlush})
	case k < 18:
		h.d = dev.Limit(h.d, h.pick(3))
		h.append(t)
		h.crash()
	default:
		h.crash()
	}
}

// P6.4: what was appended is found where it stands, behind further appends, flushes, crashes, and resets of other zones; and nothing else is.
func TestWhatWasAppendedIsFound(t *testing.T) {
	most := 0
	for seed := range uint32(40) {
		h := &history{d: made(t, 2+int(seed)%7, size), seed: seed}
		for range 100 {
			h.step(t)
			want := slices.Clone(h.kept)
			slices.SortFunc(want, func(a, b api.Found) int {
				if ahead(a, b) {
					return -1
				}
				return 1
			})
			isAll(t, "a step", h.d, want...)
			most = max(most, len(want))
			if t.Failed() {
				t.FailNow()
			}
		}
	}
	if most < 10 {
		t.Errorf("at most %d records", most)
	}
}

// P6.4: the same, one thing behind the other.
func TestFoundBehindEach(t *testing.T) {
	d, p := mustAppend(t, made(t, 4, size), rec(1, 60), rec(2, 60), rec(3, 40))
	one, two, three := api.Found{Record: rec(1, 60)}, api.Found{Record: rec(2, 60), Zone: 1}, api.Found{Record: rec(3, 40), Zone: 0, At: 60}
	if !slices.Equal(p, []complex128{0, 1, 60i}) {
		t.Fatal(p)
	}
	isAll(t, "appended", d, one, two, three)
	more, _ := mustAppend(t, d, rec(4, 100), rec(5, 30))
	isAll(t, "further appends", more, one, two, three, api.Found{Record: rec(4, 100), Zone: 2}, api.Found{Record: rec(5, 30), Zone: 1, At: 60})
	flushed := dev.Crash(must(t, d, api.Cmd{Kind: api.CFlush}))
	isAll(t, "a flush and a crash", flushed, one, two, three)
	isAll(t, "a crash without a flush", dev.Crash(d))
	isAll(t, "a crash that keeps some", dev.Crash(d, 99, 60), one, two)
	isAll(t, "a reset of another zone", must(t, more, api.Cmd{Kind: api.CReset, N: 1}), one, three, api.Found{Record: rec(4, 100), Zone: 2})
	isAll(t, "a reset of its zone", must(t, d, api.Cmd{Kind: api.CReset, N: 0}), two)
	again, p := mustAppend(t, flushed, rec(9, 20))
	if !slices.Equal(p, []complex128{2}) {
		t.Errorf("behind a crash at %v: closed zones are no place", p)
	}
	isAll(t, "an append behind a crash", again, one, two, three, api.Found{Record: rec(9, 20), Zone: 2})
}

// P6.4: a device that has had appends may be, has at most three open zones, and its bytes are just the records'.
func TestDevicesStayRight(t *testing.T) {
	d := made(t, 20, size)
	for i := range 30 {
		var e api.Errno
		if d, _, e = log.Append(d, rec(i, 20+(i*37)%81)); e != api.OK {
			break
		}
		if !dev.Check(d) || dev.Open(d) > 3 {
			t.Fatalf("%+v", d)
		}
		for n, z := range d.Zones {
			l, _ := record.Scan(z.Data)
			if !bytes.Equal(written(l...), z.Data) {
				t.Fatalf("zone %d has other bytes: %+v", n, z)
			}
		}
	}
}

// withSpare is a list of these members, whose spare room is filled.
func withSpare[T any](members []T, x T) []T {
	return append(slices.Clone(members), slices.Repeat([]T{x}, 16)...)[:len(members)]
}

// fill writes over a list, its spare room too.
func fill[T any](l []T, x T) {
	l = l[:cap(l)]
	for i := range l {
		l[i] = x
	}
}

// roomy is a device whose lists have spare room, that is filled.
func roomy(d api.Device) api.Device {
	d = deep(d)
	for i := range d.Zones {
		d.Zones[i].Data = withSpare(d.Zones[i].Data, 0xaa)
	}
	d.Zones = withSpare(d.Zones, api.Zone{State: 0xaa, Data: bytes.Repeat([]byte{0xaa}, 3)})
	return d
}

// whole is a copy of a device with all spare room made bytes and zones of it.
func whole(d api.Device) api.Device {
	d.Zones = slices.Clone(d.Zones[:cap(d.Zones)])
	for i, z := range d.Zones {
		d.Zones[i].Data = slices.Clone(z.Data[:cap(z.Data)])
	}
	return d
}

// ruin writes over all of a device, spare room too.
func ruin(d api.Device) {
	for _, z := range d.Zones {
		fill(z.Data, 0x55)
	}
	fill(d.Zones, api.Zone{State: 0x55, Resets: 0x55, Data: []byte{0x55}, Lasts: 0x55})
}

// roomyRecords are these records, with spare room, that is filled.
func roomyRecords(l []api.Record) []api.Record {
	l = slices.Clone(l)
	for i := range l {
		l[i].Body = withSpare(l[i].Body, 0xaa)
	}
	return withSpare(l, api.Record{Kind: 0xaa, Body: []byte{0xaa}})
}

// wholeRecords are a copy of these with all spare room made bytes and records of it.
func wholeRecords(l []api.Record) []api.Record {
	l = slices.Clone(l[:cap(l)])
	for i, r := range l {
		l[i].Body = slices.Clone(r.Body[:cap(r.Body)])
	}
	return l
}

// ruinRecords writes over all of these, spare room too.
func ruinRecords(l []api.Record) {
	for _, r := range l {
		fill(r.Body, 0x55)
	}
	fill(l, api.Record{Kind: 0x55, Seq: 0x55})
}

// ruinFound writes over all of these, spare room too.
func ruinFound(l []api.Found) {
	for _, f := range l {
		fill(f.Record.Body, 0x55)
	}
	fill(l, api.Found{Zone: 0x55, At: 0x55})
}

// R4: a device stays as it was, spare room too, behind each call, and whatever is written over their answers.
func TestDevicesShareNothing(t *testing.T) {
	for _, made := range limited() {
		d := roomy(made)
		before := whole(d)
		log.Empty(d)
		_, commands, _ := log.Place(d, 60)
		fill(commands, api.Cmd{Kind: 0x55})
		found, _ := log.All(d)
		ruinFound(found)
		for _, list := range lists() {
			l := roomyRecords(list)
			records := wholeRecords(l)
			first, p, e := log.Append(d, l...)
			second, q, f := log.Append(d, l...)
			want := deep(second)
			ruin(first)
			fill(p, 55)
			if e != f || !same(second, want) || len(p) != len(q) || len(q) > 0 && q[0] == 55 {
				t.Fatalf("two answers of one Append to %+v share memory", made)
			}
			if !slices.EqualFunc(wholeRecords(l), records, sameRecord) {
				t.Fatalf("Append to %+v changes records", made)
			}
			if !same(whole(d), before) || !same(d, made) {
				t.Fatalf("Append changes %+v", made)
			}
			ruinRecords(l)
			if !same(second, want) {
				t.Fatalf("Append to %+v keeps records", made)
			}
		}
	}
}

// R4: no two zones of what Append answers share bytes, where those handed in do.
func TestZonesShareNothing(t *testing.T) {
	shared := withSpare(written(rec(1, 80)), 0xaa)
	z := api.Zone{State: api.ZClosed, Data: shared, Lasts: 3}
	for _, l := range [][]api.Record{nil, {{}}, {rec(2, 20)}} {
		d, _, _ := log.Append(of(z, z, empty()), l...)
		fill(d.Zones[0].Data, 0x55)
		if !bytes.Equal(d.Zones[1].Data, written(rec(1, 80))) || !bytes.Equal(shared, written(rec(1, 80))) {
			t.Errorf("behind %d records zones share bytes", len(l))
		}
	}
}

// R4: no two records that All tells share bytes, nor does an answer share any with the next one.
func TestFoundShareNothing(t *testing.T) {
	d := of(full(rec(1, 50), rec(2, 50)), full(rec(1, 50), rec(3, 50)))
	before := deep(d)
	for k := range 4 {
		l, _ := log.All(d)
		other, _ := log.All(d)
		fill(l[k].Record.Body, 0x55)
		for i, want := range found(before) {
			if i != k && !sameFound(l[i], want) || !sameFound(other[i], want) {
				t.Errorf("%d shares bytes with %d", k, i)
			}
		}
	}
	if !same(d, before) {
		t.Errorf("%+v", d)
	}
}

// R4: Run leaves its list as it was, keeps nothing of it, and no two records that it tells share bytes, where those handed in do.
func TestRunsShareNothing(t *testing.T) {
	shared := withSpare([]byte{1, 2, 3}, 0xaa)
	l := withSpare([]api.Found{{Record: api.Record{Kind: 1, Seq: 1, Body: shared}}, {Record: api.Record{Kind: 2, Seq: 2, Body: shared}}, {Record: api.Record{Kind: 3, Seq: 3}}}, api.Found{Zone: 0xaa, Record: api.Record{Seq: 4}})
	spare := slices.Clone(l[:cap(l)])
	r := log.Run(l, 1)
	other := log.Run(l, 1)
	if len(r) != 3 || len(other) != 3 {
		t.Fatalf("%v, %v", r, other)
	}
	fill(r[0].Body, 0x55)
	if !bytes.Equal(r[1].Body, []byte{1, 2, 3}) || !bytes.Equal(other[0].Body, []byte{1, 2, 3}) || !bytes.Equal(shared[:5], []byte{1, 2, 3, 0xaa, 0xaa}) {
		t.Errorf("%v, %v, %v", r, other, shared[:5])
	}
	ruinRecords(r)
	if !slices.EqualFunc(l[:cap(l)], spare, sameFound) {
		t.Errorf("%v", l[:cap(l)])
	}
	fill(shared, 0x77)
	if !bytes.Equal(other[0].Body, []byte{1, 2, 3}) || !bytes.Equal(other[1].Body, []byte{1, 2, 3}) {
		t.Errorf("%v", other)
	}
}

// R5: spare room tells nothing, and each call answers the same again.
func TestSpareRoomTellsNothing(t *testing.T) {
	for _, d := range limited() {
		loose, tight := roomy(d), deep(d)
		for _, n := range []int{1, 20, 60, 100} {
			want, finished, f := placed(tight, n)
			isPlaced(t, "loose", loose, n, want, finished, f)
		}
		if log.Empty(loose) != log.Empty(tight) {
			t.Errorf("Empty(%+v)", d)
		}
		l, e := log.All(loose)
		m, f := log.All(tight)
		if e != f || !slices.EqualFunc(l, m, sameFound) {
			t.Errorf("All(%+v)", d)
		}
		for _, r := range lists() {
			want, places, f := log.Append(tight, r...)
			isAppended(t, "loose", loose, roomyRecords(r), want, places, f)
		}
	}
}

// P6.1: what Place tells, dev takes: the commands, and so many bytes, on devices with as many open zones as commands make.
func TestPlacesAreTaken(t *testing.T) {
	n := 0
	for _, d := range append(rightDevices(), some(4)...) {
		if dev.Open(d) > api.MaxOpen {
			continue
		}
		for _, bytes := range []int{1, 20, 21, 60, 61, d.Size} {
			at, commands, e := log.Place(d, bytes)
			if e != api.OK {
				continue
			}
			x := d
			for _, c := range commands {
				x = must(t, x, c)
			}
			if zone.Room(x.Zones[at], x.Size) < bytes {
				t.Fatalf("Place(%+v, %d): %d", d, bytes, at)
			}
			must(t, x, api.Cmd{Kind: api.CAppend, N: at, Data: make([]byte, bytes)})
			n++
		}
	}
	if n < 1000 {
		t.Errorf("%d places", n)
	}
}
