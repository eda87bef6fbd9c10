// Package le is layer 1: numbers, the lowest byte first: see shared/doc/01-le.md.
package le

import (
	"waggoner/api"
)

// Put is b, and behind it n in size bytes, in new memory.
func Put(b []byte, n uint64, size int) ([]byte, api.Errno) {
	if !isSize(size) || !fits(n, size) {
		return nil, api.ErrLe
	}
	out := make([]byte, len(b), len(b)+size)
	copy(out, b)
	return appendNumber(out, n, size), api.OK
}

// Take is the number that b's first size bytes are, and what is behind them, in new memory.
func Take(b []byte, size int) (uint64, []byte, api.Errno) {
	if !isSize(size) || len(b) < size {
		return 0, nil, api.ErrLe
	}
	rest := make([]byte, len(b)-size)
	copy(rest, b[size:])
	return number(b[:size]), rest, api.OK
}

// Pack are numbers by a form: a letter each, b, h, w and q, of one, two, four and eight bytes.
func Pack(form string, numbers ...uint64) ([]byte, api.Errno) {
	total, ok := formBytes(form)
	if !ok || len(form) != len(numbers) {
		return nil, api.ErrLe
	}
	out := make([]byte, 0, total)
	// A form's letters are a byte each, so a letter's place is its number's.
	for i, letter := range form {
		size := letterSize(letter)
		if !fits(numbers[i], size) {
			return nil, api.ErrLe
		}
		out = appendNumber(out, numbers[i], size)
	}
	return out, api.OK
}

// Unpack are the numbers of which b is Pack by the same form.
func Unpack(form string, b []byte) ([]uint64, api.Errno) {
	total, ok := formBytes(form)
	if !ok || len(b) != total {
		return nil, api.ErrLe
	}
	numbers := make([]uint64, 0, len(form))
	at := 0
	for _, letter := range form {
		size := letterSize(letter)
		numbers = append(numbers, number(b[at:at+size]))
		at += size
	}
	return numbers, api.OK
}

// isSize tells whether a number may have so many bytes.
func isSize(size int) bool {
	switch size {
	case 1, 2, 4, 8:
		return true
	}
	return false
}

// letterSize is the size that a letter of a form stands for; 0 if it is no such letter.
func letterSize(letter rune) int {
	switch letter {
	case 'b':
		return 1
	case 'h':
		return 2
	case 'w':
		return 4
	case 'q':
		return 8
	}
	return 0
}

// formBytes is how many bytes the numbers of a form have in all, and whether it is a form.
func formBytes(form string) (int, bool) {
	total := 0
	for _, letter := range form {
		size := letterSize(letter)
		if size == 0 {
			return 0, false
		}
		total += size
	}
	return total, true
}

// fits tells whether n is below 2 to the power of 8 times size; a shift by all 64 bits leaves 0, so each number fits in 8 bytes.
func fits(n uint64, size int) bool {
	return n>>(8*uint(size)) == 0
}

// appendNumber writes n behind out, into out's own spare room where there is some: out must be new memory.
func appendNumber(out []byte, n uint64, size int) []byte {
	for range size {
		out = append(out, byte(n))
		n >>= 8
	}
	return out
}

// number is what at most eight bytes are, the lowest first.
func number(b []byte) uint64 {
	n := uint64(0)
	for i, c := range b {
		n |= uint64(c) << (8 * uint(i))
	}
	return n
}
