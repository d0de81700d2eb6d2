// Package seal: the hash, and what is sealed and opened by it.
package seal

import (
	"slices"

	"warden/api"
	"warden/highfirst"
)

const factor = 0x9E3779B97F4A7C15

// What is ahead of the veiled plain and behind it: a draw and a hash, of eight bytes each.
const (
	edge  = 8
	extra = 2 * edge
)

// The uses are 1 to maxUse.
const maxUse = 5

// Hash gives the hash of some bytes.
func Hash(data []byte) uint64 {
	return hashOn(0, data)
}

// hashOn goes on with a hash: what many hashes have in common at their head is hashed once.
func hashOn(hash uint64, data []byte) uint64 {
	for _, b := range data {
		hash = (hash + uint64(b) + 1) * factor
		hash ^= hash >> 29
	}
	return hash
}

// hashHead hashes what every hash of one seal begins with.
func hashHead(key uint64, use int, draw uint64) uint64 {
	var room [edge + 1 + edge]byte
	head := highfirst.Append(room[:0], key, edge)
	head = highfirst.Append(head, use, 1)
	head = highfirst.Append(head, draw, edge)
	return Hash(head)
}

// veil changes each byte by its place; done twice, they are as they were.
func veil(data []byte, head uint64) {
	var room [2]byte
	for i := range data {
		mask := hashOn(head, highfirst.Append(room[:0], i, 2)) >> 56
		data[i] ^= byte(mask)
	}
}

func isUse(use int) bool {
	return 1 <= use && use <= maxUse
}

// Seal gives what plain is sealed to.
func Seal(key uint64, use int, draw uint64, plain []byte) ([]byte, api.Errno) {
	if !isUse(use) || len(plain) > api.MaxPlain {
		return nil, api.ErrArg
	}
	out := make([]byte, 0, len(plain)+extra)
	return Wrap(append(out, plain...), 0, key, use, draw), api.OK
}

// Wrap seals all that lies behind a place of out, where it lies. It is for the program's own plains, which are never too long.
func Wrap(out []byte, from int, key uint64, use int, draw uint64) []byte {
	head := hashHead(key, use, draw)
	plain := out[from:]
	check := hashOn(head, plain)
	veil(plain, head)
	var room [edge]byte
	out = slices.Insert(out, from, highfirst.Append(room[:0], draw, edge)...)
	return highfirst.Append(out, check, edge)
}

// Unseal gives the plain of what was sealed.
func Unseal(key uint64, use int, sealed []byte) ([]byte, api.Errno) {
	return Open(nil, key, use, sealed)
}

// Open gives the plain of what was sealed, in room as far as that suffices; what was in room is lost, even if it does not open.
func Open(room []byte, key uint64, use int, sealed []byte) ([]byte, api.Errno) {
	if !isUse(use) {
		return nil, api.ErrArg
	}
	if len(sealed) < extra || len(sealed) > api.MaxPlain+extra {
		return nil, api.ErrSeal
	}
	end := len(sealed) - edge
	head := hashHead(key, use, highfirst.Join(uint64(0), sealed[:edge]))
	plain := append(room[:0], sealed[edge:end]...)
	veil(plain, head)
	if hashOn(head, plain) != highfirst.Join(uint64(0), sealed[end:]) {
		return nil, api.ErrSeal
	}
	return plain, api.OK
}
