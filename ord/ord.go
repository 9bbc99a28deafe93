// Package ord is layer 1: see shared/doc/01-ord.md.
package ord

import (
	"cmp"

	"dovetail/api"
)

const (
	zero = 0x00 // the one byte that does not stand for itself alone
	own  = 0xff // behind a zero: it is one of the text's own
	last = 0x01 // behind a zero: the text ends; below own, so that a text stands ahead of what it begins
	high = 0xff // the greatest byte: no other one stands above it
)

// Compare is the order of two texts by their bytes: -1, 0 or 1.
func Compare(a, b string) int {
	for i := range min(len(a), len(b)) {
		if a[i] != b[i] {
			return cmp.Compare(a[i], b[i])
		}
	}
	return cmp.Compare(len(a), len(b))
}

// Escape is a text with its end, so that anything may stand behind it.
func Escape(s string) string {
	out := make([]byte, len(s)+zeros(s)+2)
	n, from := 0, 0
	for i := range len(s) {
		if s[i] == zero {
			n += copy(out[n:], s[from:i+1])
			out[n] = own
			n, from = n+1, i+1
		}
	}
	n += copy(out[n:], s[from:])
	out[n], out[n+1] = zero, last
	return string(out)
}

// zeros is how many bytes of a text need another one behind them.
func zeros(s string) int {
	n := 0
	for i := range len(s) {
		if s[i] == zero {
			n++
		}
	}
	return n
}

// Unescape reads an escaped text from a place on: the text, and the place behind it; with ErrOrdForm the place where it breaks off.
func Unescape(s string, at int) (string, int, api.Errno) {
	if at < 0 || at > len(s) {
		return "", 0, api.ErrArg
	}
	end, whole := ending(s, at)
	if !whole {
		return "", end, api.ErrOrdForm
	}
	return plain(s[at : end-2]), end, api.OK
}

// ending is the place behind the escaped text that stands from a place on; false: there is none, and the place is where that shows.
func ending(s string, at int) (int, bool) {
	open := false // a zero stands right ahead, and what it is hangs on this byte
	for i := range len(s) - at {
		c := s[at+i]
		if open && c == last {
			return at + i + 1, true
		}
		if open && c != own {
			return at + i, false
		}
		open = c == zero
	}
	return len(s), false
}

// plain takes out what stands behind each zero; every zero of s must have its own byte behind it.
func plain(s string) string {
	out := make([]byte, len(s))
	n, from := 0, 0
	for i := range len(s) {
		if s[i] == zero {
			n += copy(out[n:], s[from:i+1])
			from = i + 2
		}
	}
	n += copy(out[n:], s[from:])
	return string(out[:n])
}

// Flip is a text with each byte turned, so that the order is the other way round.
func Flip(s string) string {
	out := make([]byte, len(s))
	for i := range len(s) {
		out[i] = high - s[i]
	}
	return string(out)
}

// Next is the least text above all that begin with s; false: there is none.
func Next(s string) (string, bool) {
	for i := range len(s) {
		n := len(s) - i
		if s[n-1] != high {
			out := make([]byte, n)
			copy(out, s)
			out[n-1]++
			return string(out), true
		}
	}
	return "", false
}
