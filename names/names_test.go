package names

import (
	"strings"
	"testing"

	"warden/api"
)

const parts = "abcdefghijklmnopqrstuvwxyz0123456789/"

func TestEveryByteOfAName(t *testing.T) {
	for b := range 256 {
		part := string([]byte{byte(b)})
		want := strings.Contains(parts, part)
		for _, text := range []string{part, part + "a", "a" + part, "a" + part + "a"} {
			if IsName(text) != want {
				t.Errorf("IsName(%q) = %v, want %v", text, !want, want)
			}
		}
	}
}

func TestLengthsOfNames(t *testing.T) {
	for n := range 300 {
		want := 1 <= n && n <= api.MaxName
		if IsName(strings.Repeat("z", n)) != want {
			t.Errorf("IsName of %d bytes = %v, want %v", n, !want, want)
		}
	}
	// Runes are not counted, bytes are.
	if IsName(strings.Repeat("é", 8)) || IsName("ａ") {
		t.Error("IsName takes letters of several bytes")
	}
}
