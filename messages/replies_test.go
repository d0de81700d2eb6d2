package messages

import (
	"math"
	"strings"
	"testing"

	"warden/api"
)

// The longest reply there can be fits into a room of MaxRequest bytes, and is written there.
func TestTheLongestReplyStaysInItsRoom(t *testing.T) {
	name := strings.Repeat("z", api.MaxName)
	key := Key{Number: math.MaxInt, Key: math.MaxUint64}
	reply := Reply{
		Grant:   Grant{Flags: math.MinInt64, Client: name, Auth: math.MinInt64, Start: math.MinInt64, End: math.MinInt64, Renew: math.MinInt64},
		Service: name, ServiceKey: key, Nonce: math.MinInt64, PartKey: key,
	}
	room := make([]byte, 0, api.MaxRequest)
	for _, out := range [][]byte{reply.AppendToFirst(room), reply.AppendToNext(room), AppendRefusal(room, math.MinInt64, math.MinInt)} {
		if &out[0] != &room[:1][0] {
			t.Errorf("a reply of %d bytes left its room", len(out))
		}
	}
}

func TestRepliesAreWrittenBehindWhatIsThere(t *testing.T) {
	reply := Reply{Grant: Grant{Client: "al"}, Service: "web", ServiceKey: Key{1, 2}, PartKey: Key{3, 4}}
	for _, write := range []func(out []byte) []byte{
		reply.AppendToFirst, reply.AppendToNext, func(out []byte) []byte { return AppendRefusal(out, 5, 6) },
	} {
		if got, want := string(write([]byte("ahead"))), "ahead"+string(write(nil)); got != want {
			t.Errorf("behind some bytes: %q, want %q", got, want)
		}
	}
}
