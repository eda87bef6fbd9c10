package record_test

import (
	"bytes"
	"hash/crc32"
	"math"
	"slices"
	"testing"

	"waggoner/api"
	"waggoner/record"
)

// The numbers of the chapter, not api's, so that both are held against each other.
const (
	theMark = 0x474c5257
	head    = 16
	most    = 4096
	mostSeq = 1<<62 - 1
)

// kinds are all that a record may have.
var kinds = []int{1, 2, 3, 4, 5}

// noKinds are none; some have the lowest byte, or two, of one.
var noKinds = []int{0, 6, 7, 8, 255, 256, 257, 0x10001, 1<<32 + 1, 1<<48 + 3, -1, -2, -5, -255, -65535, math.MinInt, math.MinInt + 1, math.MaxInt, math.MaxInt - 1}

// seqs are edges of what a record may have.
var seqs = []int{0, 1, 2, 255, 256, 258, 65535, 65536, 1<<31 - 1, 1 << 31, 1<<32 - 1, 1 << 32, 0x0102030405060708, 1 << 61, mostSeq - 1, mostSeq}

// noSeqs are below 0, or beyond the greatest one.
var noSeqs = []int{-1, -2, -256, -1 << 31, -1 << 32, -mostSeq, math.MinInt, math.MinInt + 1, 1 << 62, 1<<62 + 1, 1<<62 + 1<<61, math.MaxInt - 1, math.MaxInt}

// mixed are n bytes of all kinds, the same ones for the same seed.
func mixed(n int, seed uint32) []byte {
	out := make([]byte, n)
	for i := range out {
		seed = seed*1664525 + 1013904223
		out[i] = byte(seed >> 24)
	}
	return out
}

// bodies are such as a record may have: none, few bytes, and as many as are allowed.
func bodies() [][]byte {
	return [][]byte{
		nil, {}, {0}, {255}, []byte("hello"), make([]byte, 4), mixed(31, 1), mixed(255, 2), mixed(256, 3), mixed(257, 4),
		mixed(most-1, 5), mixed(most, 6), make([]byte, most), bytes.Repeat([]byte{255}, most), raw(theMark, 1, 0, 1, nil),
	}
}

// noBodies have more bytes than are allowed.
func noBodies() [][]byte {
	return [][]byte{make([]byte, most+1), mixed(most+2, 7), make([]byte, 2*most), make([]byte, 65535), make([]byte, 65536), mixed(65536+5, 8)}
}

// rightRecords are some that may be.
func rightRecords() []api.Record {
	var out []api.Record
	for _, kind := range kinds {
		for _, body := range bodies() {
			out = append(out, api.Record{Kind: kind, Seq: 7 * kind, Body: body})
		}
		for _, seq := range seqs {
			out = append(out, api.Record{Kind: kind, Seq: seq, Body: []byte("ab")})
		}
	}
	return append(out, api.Record{Kind: 5, Seq: mostSeq, Body: mixed(most, 9)}, api.Record{Kind: 1})
}

// wrongRecords are some that may not be, for one thing or for several.
func wrongRecords() []api.Record {
	out := []api.Record{{}, {Kind: 6, Seq: -1, Body: make([]byte, most+1)}, {Seq: mostSeq + 1, Body: []byte("ab")}}
	for _, kind := range noKinds {
		out = append(out, api.Record{Kind: kind}, api.Record{Kind: kind, Seq: 5, Body: []byte("hello")}, api.Record{Kind: kind, Seq: mostSeq, Body: make([]byte, most)})
	}
	for _, kind := range kinds {
		for _, seq := range noSeqs {
			out = append(out, api.Record{Kind: kind, Seq: seq}, api.Record{Kind: kind, Seq: seq, Body: []byte("hello")})
		}
		for _, body := range noBodies() {
			out = append(out, api.Record{Kind: kind, Body: body}, api.Record{Kind: kind, Seq: mostSeq, Body: body})
		}
	}
	return out
}

// sum is CRC-32C, by the library.
func sum(b []byte) uint32 { return crc32.Checksum(b, crc32.MakeTable(crc32.Castagnoli)) }

// lowFirst writes a number behind b, in so many bytes.
func lowFirst(b []byte, n uint64, size int) []byte {
	for range size {
		b = append(b, byte(n%256))
		n /= 256
	}
	return b
}

// text is a head of these numbers, whatever they are, and a body.
func text(mark, kind, n, seq uint64, body []byte) []byte {
	b := lowFirst(nil, mark, 4)
	b = lowFirst(b, kind, 2)
	b = lowFirst(b, n, 2)
	b = lowFirst(b, seq, 8)
	return append(b, body...)
}

// raw is the same, with its sum behind.
func raw(mark, kind, n, seq uint64, body []byte) []byte {
	b := text(mark, kind, n, seq, body)
	return lowFirst(b, uint64(sum(b)), 4)
}

// written is P5.1's Write of a record that may be.
func written(r api.Record) []byte {
	return raw(theMark, uint64(r.Kind), uint64(len(r.Body)), uint64(r.Seq), r.Body)
}

// mayBe is P5.1's Check, word by word.
func mayBe(r api.Record) bool {
	kind := r.Kind == 1 || r.Kind == 2 || r.Kind == 3 || r.Kind == 4 || r.Kind == 5
	return kind && r.Seq >= 0 && r.Seq <= mostSeq && len(r.Body) <= most
}

// readBy is P5.1's Read, by trying the body of each length that there is: the record of which the first bytes of b are Write.
func readBy(b []byte) (api.Record, int, bool) {
	for n := 0; n <= most && head+n+4 <= len(b); n++ {
		seq := uint64(0)
		for i := range 8 {
			seq += uint64(b[8+i]) << (8 * i)
		}
		r := api.Record{Kind: int(b[4]) + 256*int(b[5]), Seq: int(seq), Body: b[head : head+n]}
		if int(b[6])+256*int(b[7]) == n && mayBe(r) && bytes.HasPrefix(b, written(r)) {
			return r, head + n + 4, true
		}
	}
	return api.Record{}, 0, false
}

// same tells whether two records are alike.
func same(a, b api.Record) bool {
	return a.Kind == b.Kind && a.Seq == b.Seq && bytes.Equal(a.Body, b.Body)
}

// isNone says if something else than ErrRecord, an empty record, and 0 is read.
func isNone(t *testing.T, b []byte, what string, numbers ...any) {
	t.Helper()
	if r, n, e := record.Read(b); e != api.ErrRecord || n != 0 || !same(r, api.Record{}) {
		t.Errorf(what+": Kind %d, Seq %d, %d bytes of Body; %d, %d", append(numbers, r.Kind, r.Seq, len(r.Body), n, e)...)
	}
}

// isRead says if something else than this record, of the bytes that are Write, is read.
func isRead(t *testing.T, b []byte, want api.Record, what string, numbers ...any) {
	t.Helper()
	if r, n, e := record.Read(b); e != api.OK || n != head+len(want.Body)+4 || !same(r, want) {
		t.Errorf(what+": Kind %d, Seq %d, %d bytes of Body; %d, %d", append(numbers, r.Kind, r.Seq, len(r.Body), n, e)...)
	}
}

// isScanned says if other records are found, or elsewhere.
func isScanned(t *testing.T, b []byte, want []api.Record, at []int, what string, numbers ...any) {
	t.Helper()
	l, places := record.Scan(b)
	if !slices.EqualFunc(l, want, same) || !slices.Equal(places, at) {
		t.Errorf(what+": %d records at %v; not %d at %v", append(numbers, len(l), places, len(want), at)...)
	}
}

// turn turns the bits of b that pattern has, from the bit at on; a byte's lowest bit is its first.
func turn(b []byte, at int, pattern uint32) []byte {
	out := slices.Clone(b)
	for i := range 32 {
		if pattern>>i&1 == 1 {
			out[(at+i)/8] ^= 1 << ((at + i) % 8)
		}
	}
	return out
}

// withSpare are these bytes, whose spare room is filled by 0xaa.
func withSpare(b []byte) []byte {
	all := append(slices.Clone(b), bytes.Repeat([]byte{0xaa}, 64)...)
	return all[:len(b)]
}

// fill writes over a list, its spare room too.
func fill[T any](l []T, x T) {
	l = l[:cap(l)]
	for i := range l {
		l[i] = x
	}
}

// whole is a copy of a list and its spare room.
func whole[T any](l []T) []T { return slices.Clone(l[:cap(l)]) }

// row are records one behind the other, as they are, as bytes, and where each one stands.
func row() ([]api.Record, []byte, []int) {
	l := []api.Record{
		{Kind: api.KChange, Seq: 9, Body: []byte("hello")},
		{Kind: api.KPart, Seq: 10},
		{Kind: api.KSnap, Seq: 3, Body: mixed(40, 21)},
		{Kind: api.KStage, Seq: 3, Body: mixed(7, 22)},
		{Kind: api.KDone, Seq: mostSeq, Body: make([]byte, 1)},
		{Kind: api.KChange},
	}
	var all []byte
	var at []int
	for _, r := range l {
		at = append(at, len(all))
		all = append(all, written(r)...)
	}
	return l, all, at
}

// P5.1: the numbers of the chapter are api's.
func TestLimits(t *testing.T) {
	if api.RecordHead != head || api.MaxBody != most || api.MaxSeq != mostSeq || api.ErrRecord != 50 {
		t.Errorf("%d, %d, %d, %d", api.RecordHead, api.MaxBody, api.MaxSeq, api.ErrRecord)
	}
	if l := []int{api.KChange, api.KPart, api.KSnap, api.KStage, api.KDone}; !slices.Equal(l, kinds) {
		t.Errorf("%v", l)
	}
}

// P5.1: records that may be, of each Kind, of each edge.
func TestCheckOfRightRecords(t *testing.T) {
	for _, r := range rightRecords() {
		if e := record.Check(r); e != api.OK {
			t.Errorf("Check of Kind %d, Seq %d, %d bytes: %d", r.Kind, r.Seq, len(r.Body), e)
		}
	}
}

// P5.1: records that may not be.
func TestCheckOfWrongRecords(t *testing.T) {
	for _, r := range wrongRecords() {
		if e := record.Check(r); e != api.ErrRecord {
			t.Errorf("Check of Kind %d, Seq %d, %d bytes: %d", r.Kind, r.Seq, len(r.Body), e)
		}
	}
}

// P5.1: all Kinds and Seqs with each other, right ones and wrong ones.
func TestCheckOfAllTogether(t *testing.T) {
	for _, kind := range slices.Concat(kinds, noKinds) {
		for _, seq := range slices.Concat(seqs, noSeqs) {
			for _, n := range []int{0, 1, most - 1, most, most + 1} {
				r := api.Record{Kind: kind, Seq: seq, Body: make([]byte, n)}
				if e := record.Check(r); (e == api.OK) != mayBe(r) || e != api.OK && e != api.ErrRecord {
					t.Errorf("Check of Kind %d, Seq %d, %d bytes: %d", kind, seq, n, e)
				}
			}
		}
	}
}

// P5.1: n, RecordHead and 4 together; 0 of what a body may not have.
func TestSize(t *testing.T) {
	if a, b := record.Size(0), record.Size(4097); a != 20 || b != 0 {
		t.Errorf("the chapter's example: %d, %d", a, b)
	}
	for n := range most + 1 {
		if x := record.Size(n); x != n+20 {
			t.Errorf("Size(%d): %d", n, x)
		}
	}
	for _, n := range []int{-1, -2, -4, -16, -20, -21, -most, -1 << 32, math.MinInt, math.MinInt + 1, most + 1, most + 2, 4116, 65535, 65536, 1<<32 + 5, math.MaxInt - 19, math.MaxInt - 1, math.MaxInt} {
		if x := record.Size(n); x != 0 {
			t.Errorf("Size(%d): %d", n, x)
		}
	}
}

// P5.1: a record byte by byte: the mark, the Kind, the Body's bytes, Seq, the Body, and the sum of all these.
func TestWriteByteByByte(t *testing.T) {
	for _, c := range []struct {
		r    api.Record
		want []byte
	}{
		{api.Record{Kind: 3, Seq: 258, Body: []byte("hello")}, []byte{0x57, 0x52, 0x4c, 0x47, 3, 0, 5, 0, 2, 1, 0, 0, 0, 0, 0, 0, 'h', 'e', 'l', 'l', 'o'}},
		{api.Record{Kind: 1}, []byte{0x57, 0x52, 0x4c, 0x47, 1, 0, 0, 0, 0, 0, 0, 0, 0, 0, 0, 0}},
		{api.Record{Kind: 5, Seq: mostSeq, Body: make([]byte, 258)}, append([]byte{0x57, 0x52, 0x4c, 0x47, 5, 0, 2, 1, 255, 255, 255, 255, 255, 255, 255, 63}, make([]byte, 258)...)},
		{api.Record{Kind: 2, Seq: 0x0102030405060708, Body: []byte{9}}, []byte{0x57, 0x52, 0x4c, 0x47, 2, 0, 1, 0, 8, 7, 6, 5, 4, 3, 2, 1, 9}},
		{api.Record{Kind: 4, Seq: 1, Body: make([]byte, most)}, append([]byte{0x57, 0x52, 0x4c, 0x47, 4, 0, 0, 16, 1, 0, 0, 0, 0, 0, 0, 0}, make([]byte, most)...)},
	} {
		s := sum(c.want)
		want := append(c.want, byte(s), byte(s>>8), byte(s>>16), byte(s>>24))
		if b, e := record.Write(c.r); e != api.OK || !bytes.Equal(b, want) {
			t.Errorf("Write(%v): %v, %d; not %v", c.r, b, e, want)
		}
	}
}

// P5.1: Write of all records that may be, as many bytes as Size tells.
func TestWriteOfRightRecords(t *testing.T) {
	for _, r := range rightRecords() {
		b, e := record.Write(r)
		if e != api.OK || !bytes.Equal(b, written(r)) || len(b) != record.Size(len(r.Body)) {
			t.Errorf("Write of Kind %d, Seq %d, %d bytes: %d bytes, %d", r.Kind, r.Seq, len(r.Body), len(b), e)
		}
	}
}

// P5.1, R2: Check's error, and no bytes beside it.
func TestWriteOfWrongRecords(t *testing.T) {
	for _, r := range wrongRecords() {
		if b, e := record.Write(r); e != api.ErrRecord || len(b) != 0 {
			t.Errorf("Write of Kind %d, Seq %d, %d bytes: %d bytes, %d", r.Kind, r.Seq, len(r.Body), len(b), e)
		}
	}
}

// P5.1, P5.3: a record is read as it was written.
func TestReadOfWhatWasWritten(t *testing.T) {
	for _, r := range rightRecords() {
		b, _ := record.Write(r)
		isRead(t, b, r, "Kind %d, Seq %d, %d bytes", r.Kind, r.Seq, len(r.Body))
	}
}

// P5.1, P5.3: whatever stands behind is not read.
func TestReadWithBytesBehind(t *testing.T) {
	behind := [][]byte{{0}, {255}, {1, 2}, {0x57}, {0x57, 0x52, 0x4c, 0x47}, make([]byte, 20), mixed(5000, 31), make([]byte, 70000), raw(theMark, 2, 3, 4, []byte("abc")), raw(theMark, 9, 0, 4, nil)}
	for _, r := range []api.Record{{Kind: 1}, {Kind: 2, Seq: 258, Body: []byte("hello")}, {Kind: 5, Seq: mostSeq, Body: mixed(most, 32)}, {Kind: 3, Body: written(api.Record{Kind: 4})}} {
		for i, more := range append(behind, written(r), written(r)[:10]) {
			isRead(t, append(written(r), more...), r, "Kind %d, behind %d", r.Kind, i)
		}
	}
}

// P5.1, R2: no bytes, and fewer than a record has, are none.
func TestReadOfFewBytes(t *testing.T) {
	isNone(t, nil, "nil")
	isNone(t, []byte{}, "no bytes")
	for _, r := range []api.Record{{Kind: 1}, {Kind: 3, Seq: 258, Body: []byte("hello")}, {Kind: 5, Seq: mostSeq, Body: mixed(300, 33)}} {
		b := written(r)
		for n := range len(b) {
			isNone(t, b[:n], "%d of %d bytes", n, len(b))
			isNone(t, slices.Clip(slices.Clone(b[:n])), "%d of %d bytes, without spare room", n, len(b))
			isNone(t, b[len(b)-n:], "the last %d of %d bytes", n, len(b))
		}
	}
	for n := range 64 {
		isNone(t, make([]byte, n), "%d zeros", n)
		isNone(t, bytes.Repeat([]byte{255}, n), "%d bytes of 255", n)
		isNone(t, mixed(n, uint32(n)), "%d mixed bytes", n)
	}
}

// P5.1, R2: another mark, though the sum is right.
func TestReadOfAnotherMark(t *testing.T) {
	marks := []uint64{0, 1, 0x57524c47, 0x474c5256, 0x474c5258, 0x474c0057, 0x47525257, 0xffffffff, 0xb8b3ada8}
	for bit := range 32 {
		marks = append(marks, theMark^1<<bit)
	}
	for _, mark := range marks {
		isNone(t, raw(mark, 1, 5, 258, []byte("hello")), "mark %08x", mark)
		isNone(t, raw(mark, 1, 0, 0, nil), "mark %08x, no body", mark)
	}
}

// P5.1, R2: a Kind that is none, though the sum is right.
func TestReadOfNoKind(t *testing.T) {
	for kind := range uint64(65536) {
		if kind >= 1 && kind <= 5 {
			continue
		}
		isNone(t, raw(theMark, kind, 2, 258, []byte("ab")), "Kind %d", kind)
	}
}

// P5.1, R2: a Seq beyond MaxSeq, though the sum is right.
func TestReadOfNoSeq(t *testing.T) {
	for _, seq := range []uint64{1 << 62, 1<<62 + 1, 1<<62 + 258, 1<<63 - 1, 1 << 63, 1<<63 + 1, 1<<63 + 258, 3 << 62, math.MaxUint64 - 1, math.MaxUint64} {
		isNone(t, raw(theMark, 1, 5, seq, []byte("hello")), "Seq %d", seq)
		isNone(t, raw(theMark, 5, 0, seq, nil), "Seq %d, no body", seq)
	}
	isRead(t, raw(theMark, 1, 5, mostSeq, []byte("hello")), api.Record{Kind: 1, Seq: mostSeq, Body: []byte("hello")}, "the greatest Seq")
}

// P5.1, R2: a number of bytes beyond MaxBody, though the bytes are there, and the sum is right.
func TestReadOfTooManyBytes(t *testing.T) {
	for _, n := range []int{most + 1, most + 2, most + 16, most + 20, 2 * most, 32767, 32768, 65534, 65535} {
		isNone(t, raw(theMark, 1, uint64(n), 258, mixed(n, 41)), "%d bytes", n)
	}
	full := mixed(most, 42)
	isRead(t, raw(theMark, 1, most, 258, full), api.Record{Kind: 1, Seq: 258, Body: full}, "the greatest body")
}

// P5.1, R2: another number of bytes than there are, with the sum where the bytes end, and where they would.
func TestReadOfAnotherNumberOfBytes(t *testing.T) {
	for n := range uint64(65536) {
		if n == 5 {
			continue
		}
		isNone(t, raw(theMark, 1, n, 258, []byte("hello")), "%d bytes told, 5 there", n)
	}
	// The sum of so many bytes stands where it must, and is cut off.
	for _, n := range []int{0, 1, 5, 300, most} {
		b := raw(theMark, 1, uint64(n), 258, mixed(n, 43))
		for less := 1; less <= 4; less++ {
			isNone(t, b[:len(b)-less], "%d bytes, cut by %d", n, less)
		}
	}
}

// P5.1, R2: another sum, none, the other way round, turned, of the head or the body alone, or elsewhere.
func TestReadOfAnotherSum(t *testing.T) {
	body := []byte("hello")
	b := text(theMark, 1, 5, 258, body)
	s := sum(b)
	for _, other := range []uint32{0, s + 1, s - 1, s ^ 0xffffffff, s<<24 | s>>8, s<<24 | s<<8&0xff0000 | s>>8&0xff00 | s>>24, sum(body), sum(b[:head]), sum(b[4:]), sum(b[:len(b)-1])} {
		isNone(t, lowFirst(slices.Clone(b), uint64(other), 4), "sum %08x", other)
	}
	isNone(t, append(b, 0, 0, 0, 0), "no sum")
	isNone(t, slices.Concat(b[:head], lowFirst(nil, uint64(s), 4), body), "a sum ahead of the body")
	isNone(t, append([]byte{0}, written(api.Record{Kind: 1, Seq: 258, Body: body})...), "a byte ahead")
}

// P5.1, P5.3, R2: each byte of a record turned to each other one.
func TestReadWithAByteTurned(t *testing.T) {
	for _, r := range []api.Record{{Kind: 1}, {Kind: 3, Seq: 258, Body: []byte("hello")}, {Kind: 5, Seq: mostSeq, Body: mixed(50, 44)}} {
		b := written(r)
		for i := range b {
			for by := 1; by < 256; by++ {
				turned := slices.Clone(b)
				turned[i] ^= byte(by)
				isNone(t, turned, "Kind %d, byte %d by %d", r.Kind, i, by)
				isNone(t, append(turned, mixed(6000, 45)...), "Kind %d, byte %d by %d, with bytes behind", r.Kind, i, by)
			}
		}
	}
}

// P5.3, R2: one with some of up to thirty-two bits that follow one another turned is none.
func TestReadWithBitsTurned(t *testing.T) {
	for _, r := range []api.Record{{Kind: 1}, {Kind: 3, Seq: 258, Body: []byte("hello")}, {Kind: 4, Seq: mostSeq, Body: mixed(40, 46)}} {
		b := written(r)
		for long := 1; long <= 32; long++ {
			ends := uint32(1) | 1<<(long-1)
			all := uint32(1<<long - 1)
			for at := 0; at+long <= 8*len(b); at++ {
				for _, pattern := range []uint32{ends, all, (0x82f63b78 | ends) & all, (0x05ec76f1 | ends) & all, (0x55555555 | ends) & all, (uint32(at)*2654435761 | ends) & all} {
					isNone(t, turn(b, at, pattern), "Kind %d, %08x from bit %d on", r.Kind, pattern, at)
				}
			}
		}
	}
}

// P5.3, R2: the same of a record of as many bytes as are allowed, wherever a bit, or two of thirty-two, are turned.
func TestReadOfAGreatOneWithBitsTurned(t *testing.T) {
	b := written(api.Record{Kind: 2, Seq: 77, Body: mixed(most, 47)})
	for at := 0; at < 8*len(b); at += 13 {
		isNone(t, turn(b, at, 1), "bit %d", at)
		if at+32 <= 8*len(b) {
			isNone(t, turn(b, at, 0x80000001), "bits %d and %d", at, at+31)
			isNone(t, turn(b, at, 0xffffffff), "bits %d to %d", at, at+31)
		}
	}
}

// P5.1: bytes are read by what they are, not by what they were: where a body holds the rest of a shorter record, a number of bytes that is turned to its own makes just that one, and the whole is none.
func TestReadOfAShorterOne(t *testing.T) {
	shorter := written(api.Record{Kind: 1, Seq: 5, Body: []byte("ab")})
	longer := written(api.Record{Kind: 1, Seq: 5, Body: append(slices.Clone(shorter[head:]), "behind"...)})
	isRead(t, longer, api.Record{Kind: 1, Seq: 5, Body: append(slices.Clone(shorter[head:]), "behind"...)}, "the longer one")
	longer[6] = 2
	isRead(t, longer, api.Record{Kind: 1, Seq: 5, Body: []byte("ab")}, "the shorter one")
}

// P5.1: all kinds of heads, bodies and bytes behind, held against the record that is found by trying all.
func TestReadIsTheRecordOfItsBytes(t *testing.T) {
	found := 0
	for i := range uint64(6000) {
		m := mixed(16, uint32(i)+51)
		mark := theMark ^ uint64(m[0])/250
		kind := uint64(m[1]) % 8
		n := int(m[2]) % 40
		seq := uint64(m[3])<<uint(m[4]%57) ^ uint64(m[5])
		b := raw(mark, kind, uint64(n)+uint64(m[6])/230, seq, mixed(n, uint32(i)))
		if m[7] < 20 {
			b[int(m[8])%len(b)] ^= m[9]
		}
		b = append(b, mixed(int(m[10])%8, 52)...)
		b = b[:len(b)-int(m[11])/240]
		want, size, ok := readBy(b)
		if !ok {
			isNone(t, b, "%d", i)
			continue
		}
		found++
		isRead(t, b, want, "%d", i)
		if size != head+len(want.Body)+4 {
			t.Errorf("%d: %d", i, size)
		}
	}
	if found < 1000 || found > 5000 {
		t.Errorf("%d of 6000 are records: too few of one kind are tried", found)
	}
}

// P5.2: no bytes, and bytes that begin with no record, have none.
func TestScanOfNothing(t *testing.T) {
	r := written(api.Record{Kind: 1, Seq: 5, Body: []byte("ab")})
	for i, b := range [][]byte{nil, {}, {0}, make([]byte, 20), make([]byte, 100000), mixed(5000, 61), r[:len(r)-1], r[1:], append([]byte{0}, r...), append(make([]byte, 22), r...), append(raw(theMark, 6, 0, 5, nil), r...)} {
		isScanned(t, b, nil, nil, "%d", i)
	}
}

// P5.2: one record, of each Kind and of each edge.
func TestScanOfOne(t *testing.T) {
	for _, r := range rightRecords() {
		isScanned(t, written(r), []api.Record{r}, []int{0}, "Kind %d, Seq %d, %d bytes", r.Kind, r.Seq, len(r.Body))
	}
}

// P5.2, P5.3: records one behind the other are all found, whatever their numbers.
func TestScanOfARow(t *testing.T) {
	l, all, at := row()
	isScanned(t, all, l, at, "a row")
	isScanned(t, slices.Concat(all, all), slices.Concat(l, l), append(slices.Clone(at), moved(at, len(all))...), "a row, twice")

	var right []byte
	var places []int
	for _, r := range rightRecords() {
		places = append(places, len(right))
		right = append(right, written(r)...)
	}
	isScanned(t, right, rightRecords(), places, "all right ones")
}

// moved are places that are so many bytes further on.
func moved(at []int, by int) []int {
	out := slices.Clone(at)
	for i := range out {
		out[i] += by
	}
	return out
}

// P5.2, P5.3: of ones that are cut off at every place those ahead are found.
func TestScanOfWhatIsCutOff(t *testing.T) {
	l, all, at := row()
	ends := append(slices.Clone(at[1:]), len(all))
	for n := range len(all) + 1 {
		whole := 0
		for whole < len(ends) && ends[whole] <= n {
			whole++
		}
		isScanned(t, all[:n], l[:whole], at[:whole], "cut off at %d", n)
		isScanned(t, slices.Clip(slices.Clone(all[:n])), l[:whole], at[:whole], "cut off at %d, without spare room", n)
	}
}

// P5.2: with other bytes between them those ahead alone are found.
func TestScanWithOtherBytesBetween(t *testing.T) {
	l, all, at := row()
	for i := range l {
		for k, other := range [][]byte{{0}, {255}, {0x57}, {0x57, 0x52, 0x4c, 0x47}, make([]byte, 20), mixed(33, 62), raw(theMark, 6, 0, 0, nil), all[at[i]:][:19], raw(0, 1, 0, 0, nil)} {
			b := slices.Concat(all[:at[i]], other, all[at[i]:])
			isScanned(t, b, l[:i], at[:i], "bytes %d ahead of record %d", k, i)
		}
	}
	for k, other := range [][]byte{{0}, {255}, {0x57}, make([]byte, 20), make([]byte, 5000), mixed(33, 63)} {
		isScanned(t, append(slices.Clone(all), other...), l, at, "bytes %d behind all", k)
	}
}

// P5.2, P5.3: one that is turned ends a scan, and is none; those ahead are found.
func TestScanWithBitsTurned(t *testing.T) {
	l, all, at := row()
	for bit := range 8*len(all) - 31 {
		// The first record of which something is turned; each pattern has its lowest bit.
		first := 0
		for first+1 < len(at) && at[first+1] <= bit/8 {
			first++
		}
		for _, pattern := range []uint32{1, 3, 0x81, 0xffff, 0x10001, 0x82f63b79} {
			isScanned(t, turn(all, bit, pattern), l[:first], at[:first], "%08x from bit %d on", pattern, bit)
		}
	}
}

// P5.2: Scan is Read, from each place on by as many bytes.
func TestScanIsReadOnAndOn(t *testing.T) {
	_, all, _ := row()
	for i := range 300 {
		m := mixed(8, uint32(i)+71)
		b := slices.Concat(all, mixed(int(m[0])%3, uint32(i)), all)
		b[int(m[1])*len(b)/256] ^= m[2] / 128
		b = b[:len(b)-int(m[3])]
		var want []api.Record
		var at []int
		for place := 0; ; {
			r, n, e := record.Read(b[place:])
			if e != api.OK {
				break
			}
			want, at = append(want, r), append(at, place)
			place += n
		}
		isScanned(t, b, want, at, "%d", i)
	}
}

// P5.2: as many records as a zone has room for, the smallest and the greatest.
func TestScanOfAFullZone(t *testing.T) {
	for _, n := range []int{0, 1, 100, most} {
		var all []byte
		var l []api.Record
		var at []int
		for len(all)+record.Size(n) <= api.MaxZone {
			r := api.Record{Kind: 1 + len(l)%5, Seq: len(l), Body: mixed(n, uint32(len(l)))}
			at = append(at, len(all))
			l = append(l, r)
			all = append(all, written(r)...)
		}
		isScanned(t, all, l, at, "bodies of %d bytes", n)
		isScanned(t, append(all, make([]byte, api.MaxZone-len(all))...), l, at, "bodies of %d bytes, and zeros", n)
	}
}

// R4: no call changes what it is given, nor its spare room.
func TestArgumentsStay(t *testing.T) {
	_, all, _ := row()
	one := written(api.Record{Kind: 3, Seq: 258, Body: []byte("hello")})
	for _, given := range [][]byte{nil, {0}, []byte("hello"), one, one[:20], all, all[:len(all)-1], append([]byte{0}, all...), mixed(most, 81), mixed(most+1, 82)} {
		b := withSpare(given)
		before := whole(b)
		for _, kind := range []int{0, 1, 5} {
			record.Check(api.Record{Kind: kind, Seq: 7, Body: b})
			record.Write(api.Record{Kind: kind, Seq: 7, Body: b})
		}
		record.Read(b)
		record.Scan(b)
		if !bytes.Equal(whole(b), before) {
			t.Errorf("%d bytes were changed", len(given))
		}
	}
}

// R4: what Write answers is memory of its own, its spare room too.
func TestWriteAnswersNewMemory(t *testing.T) {
	for _, body := range [][]byte{nil, {7}, []byte("hello"), mixed(most, 83)} {
		r := api.Record{Kind: 3, Seq: 258, Body: withSpare(body)}
		before := whole(r.Body)
		first, _ := record.Write(r)
		second, _ := record.Write(r)
		fill(first, 0x55)
		if !bytes.Equal(whole(r.Body), before) || !bytes.Equal(second, written(r)) {
			t.Errorf("Write of %d bytes shares what it answers", len(body))
		}
		fill(r.Body, 0x66)
		if want := (api.Record{Kind: 3, Seq: 258, Body: body}); !bytes.Equal(second, written(want)) {
			t.Errorf("Write of %d bytes keeps them", len(body))
		}
	}
}

// R4: what Read answers is memory of its own, its spare room too.
func TestReadAnswersNewMemory(t *testing.T) {
	for _, body := range [][]byte{nil, {7}, []byte("hello"), mixed(most, 84)} {
		given := withSpare(written(api.Record{Kind: 3, Seq: 258, Body: body}))
		before := whole(given)
		first, _, _ := record.Read(given)
		second, _, _ := record.Read(given)
		fill(first.Body, 0x55)
		if !bytes.Equal(whole(given), before) || !bytes.Equal(second.Body, body) {
			t.Errorf("Read of %d bytes shares what it answers", len(body))
		}
		fill(given, 0x66)
		if !bytes.Equal(second.Body, body) {
			t.Errorf("Read of %d bytes keeps them", len(body))
		}
	}
}

// R4: what Scan answers is memory of its own, each record's too.
func TestScanAnswersNewMemory(t *testing.T) {
	l, all, at := row()
	given := withSpare(all)
	before := whole(given)
	first, places := record.Scan(given)
	second, again := record.Scan(given)
	for i := range first {
		fill(first[i].Body, byte(0x50+i))
		for k := i + 1; k < len(first); k++ {
			if !same(first[k], l[k]) {
				t.Errorf("records %d and %d share bytes", i, k)
			}
		}
	}
	for i := range first {
		for _, x := range first[i].Body {
			if x != byte(0x50+i) {
				t.Errorf("record %d shares bytes with another one", i)
				break
			}
		}
	}
	fill(first, api.Record{Kind: 99})
	fill(places, 99)
	if !bytes.Equal(whole(given), before) {
		t.Errorf("Scan shares what it answers with what it is given")
	}
	fill(given, 0x66)
	if !slices.EqualFunc(second, l, same) || !slices.Equal(again, at) {
		t.Errorf("Scan shares what it answers with another answer, or keeps what it is given")
	}
}

// R5: spare room, and what is in it, tells nothing.
func TestSpareRoomTellsNothing(t *testing.T) {
	r := api.Record{Kind: 2, Seq: 258, Body: []byte("hello")}
	// All bytes of the record are there, but some of them behind the end.
	roomy := append(written(r), written(r)...)
	for end := range len(roomy) + 1 {
		a, n, e := record.Read(roomy[:end])
		b, m, f := record.Read(slices.Clip(slices.Clone(roomy[:end])))
		if e != f || n != m || !same(a, b) || (e == api.OK) != (end >= 25) {
			t.Errorf("%d bytes: %v, %d, %d; %v, %d, %d", end, a, n, e, b, m, f)
		}
	}
	x, _ := record.Write(api.Record{Kind: 2, Seq: 258, Body: withSpare([]byte("hello"))})
	if !bytes.Equal(x, written(r)) {
		t.Errorf("%v", x)
	}
	long := make([]byte, most, 2*most)
	if e := record.Check(api.Record{Kind: 1, Body: long}); e != api.OK {
		t.Errorf("%d", e)
	}
}
