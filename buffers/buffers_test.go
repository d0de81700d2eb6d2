package buffers

import (
	"testing"

	"warden/api"
)

func wantFree(t *testing.T, what string, p *Pool, want int) {
	t.Helper()
	if free := p.Free(); free != want {
		t.Errorf("P12: %s: %d buffers lie free, want %d", what, free, want)
	}
}

func TestBuffersGoAndComeBack(t *testing.T) {
	if Count < 1 || Count > api.MaxBuffers {
		t.Errorf("P12: there are %d buffers", Count)
	}
	var p Pool
	wantFree(t, "an empty pool", &p, Count)
	var taken []*Buffer
	for i := range Count {
		taken = append(taken, p.Take())
		wantFree(t, "one more is taken", &p, Count-i-1)
	}
	for i, buffer := range taken {
		for _, other := range taken[:i] {
			if buffer == other {
				t.Error("P12: a buffer was taken twice")
			}
		}
	}
	for i, buffer := range taken {
		buffer.GiveBack()
		wantFree(t, "one more is given back", &p, i+1)
		// Twice is once.
		buffer.GiveBack()
		wantFree(t, "one is given back twice", &p, i+1)
	}
}

func TestMoreBuffersThanThereAre(t *testing.T) {
	var p Pool
	for range Count {
		p.Take()
	}
	beside := p.Take()
	if beside == p.Take() || cap(beside.Room()) == 0 {
		t.Error("P12: no buffer beside those of the pool")
	}
	beside.GiveBack()
	wantFree(t, "one beside the pool is given back", &p, 0)
}

func TestABufferIsEmptyWhenItIsTaken(t *testing.T) {
	var p Pool
	for range 2 * Count {
		buffer := p.Take()
		room := buffer.Room()
		if len(room) != 0 || cap(room) < api.MaxPlain {
			t.Errorf("P12: a room of %d bytes with %d in it", cap(room), len(room))
		}
		for i, b := range room[:cap(room)] {
			if b != 0 {
				t.Fatalf("P12: byte %d is left in a buffer", i)
			}
			room[:cap(room)][i] = 0xFF
		}
		buffer.GiveBack()
	}
}

func TestACopyIsAPoolOfItsOwn(t *testing.T) {
	var p Pool
	buffer := p.Take()
	copied := p
	buffer.GiveBack()
	wantFree(t, "a pool", &p, Count)
	wantFree(t, "its copy", &copied, Count-1)
}
