// Package seal: the hash, and what is sealed and opened by it.
package seal

import (
	"warden/api"
	"warden/highfirst"
)

const factor = 0x9E3779B97F4A7C15

// What is ahead of the veiled plain and behind it: a draw and a hash, of eight bytes each.
const (
	edge  = 8
	extra = 2 * edge
)

// The uses are 1 to maxUse.
const maxUse = 5

// Hash gives the hash of some bytes.
func Hash(data []byte) uint64 {
	return hashOn(0, data)
}

// hashOn goes on with a hash: what many hashes have in common at their head is hashed once.
func hashOn(hash uint64, data []byte) uint64 {
	for _, b := range data {
		hash = (hash + uint64(b) + 1) * factor
		hash ^= hash >> 29
	}
	return hash
}

// hashHead hashes what every hash of one seal begins with.
func hashHead(key uint64, use int, draw uint64) uint64 {
	var room [edge + 1 + edge]byte
	head := highfirst.Append(room[:0], key, edge)
	head = highfirst.Append(head, use, 1)
	head = highfirst.Append(head, draw, edge)
	return Hash(head)
}

// appendVeiled puts the bytes of in behind out, each changed by its place; done twice, they are as they were.
func appendVeiled(out []byte, head uint64, in []byte) []byte {
	var room [2]byte
	for i, b := range in {
		mask := hashOn(head, highfirst.Append(room[:0], i, 2)) >> 56
		out = append(out, b^byte(mask))
	}
	return out
}

func isUse(use int) bool {
	return 1 <= use && use <= maxUse
}

// Seal gives what plain is sealed to.
func Seal(key uint64, use int, draw uint64, plain []byte) ([]byte, api.Errno) {
	if !isUse(use) || len(plain) > api.MaxPlain {
		return nil, api.ErrArg
	}
	head := hashHead(key, use, draw)
	out := make([]byte, 0, len(plain)+extra)
	out = highfirst.Append(out, draw, edge)
	out = appendVeiled(out, head, plain)
	return highfirst.Append(out, hashOn(head, plain), edge), api.OK
}

// Unseal gives the plain of what was sealed.
func Unseal(key uint64, use int, sealed []byte) ([]byte, api.Errno) {
	if !isUse(use) {
		return nil, api.ErrArg
	}
	if len(sealed) < extra || len(sealed) > api.MaxPlain+extra {
		return nil, api.ErrSeal
	}
	end := len(sealed) - edge
	head := hashHead(key, use, highfirst.Join(uint64(0), sealed[:edge]))
	plain := appendVeiled(make([]byte, 0, end-edge), head, sealed[edge:end])
	if hashOn(head, plain) != highfirst.Join(uint64(0), sealed[end:]) {
		return nil, api.ErrSeal
	}
	return plain, api.OK
}
