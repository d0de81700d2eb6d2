// Package names: what may be the name of a client or a service.
package names

import "warden/api"

// IsName tells whether a text is a name.
func IsName(text string) bool {
	if len(text) < 1 || len(text) > api.MaxName {
		return false
	}
	// Byte by byte: a range over the text itself would go by runes.
	for i := range len(text) {
		if !isPart(text[i]) {
			return false
		}
	}
	return true
}

func isPart(b byte) bool {
	return 'a' <= b && b <= 'z' || '0' <= b && b <= '9' || b == '/'
}
