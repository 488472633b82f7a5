// Package xor is layer 1: see shared/doc/01-xor.md.
package xor

import "windlass/api"

// Two is two texts put together, bit by bit; All is that of many.
func Two(a, b string) (string, api.Errno) {
	return together(a, b)
}

func All(l []string) (string, api.Errno) {
	return together(l...)
}

// Moved is what All is, if one text of it is another one; Missing is the text that is missing for it.
func Moved(all, old, now string) (string, api.Errno) {
	return together(all, old, now)
}

func Missing(all string, rest []string) (string, api.Errno) {
	// A list that begins anew: rest may have spare room, and that is its owner's.
	return together(append([]string{all}, rest...)...)
}

// together is the sum of all parts, byte by byte; every call of this layer is one of it.
func together(parts ...string) (string, api.Errno) {
	if !alike(parts) {
		return "", api.ErrXorLong
	}
	sum := []byte(parts[0])
	for _, part := range parts[1:] {
		for i := range sum {
			sum[i] ^= part[i]
		}
	}
	return string(sum), api.OK
}

// alike tells whether there are parts, all of them as long.
func alike(parts []string) bool {
	if len(parts) == 0 {
		return false
	}
	for _, part := range parts {
		if len(part) != len(parts[0]) {
			return false
		}
	}
	return true
}
