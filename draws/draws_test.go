package draws

import (
	"slices"
	"testing"
)

func wantDraws(t *testing.T, d *Draws, left int, want ...uint64) {
	t.Helper()
	places := make([]uint64, len(want))
	if ok := d.Fill(places); !ok || !slices.Equal(places, want) || d.Left() != left {
		t.Errorf("P5: Fill(..) = %v, %#x, %d left, want %#x, %d left", ok, places, d.Left(), want, left)
	}
}

// wantTooFew wants that n numbers cannot be drawn, and that nothing changes by that.
func wantTooFew(t *testing.T, d *Draws, n, left int) {
	t.Helper()
	for range 2 {
		places := make([]uint64, n)
		if ok := d.Fill(places); ok || slices.Max(places) != 0 || d.Left() != left {
			t.Errorf("P5: Fill(..) = %v, %#x, %d left, want none, %d left", ok, places, d.Left(), left)
		}
	}
}

func count(n int) []byte {
	data := make([]byte, n)
	for i := range data {
		data[i] = byte(i + 1)
	}
	return data
}

func TestDrawsAreTakenInTheirOrder(t *testing.T) {
	d := Of(count(37))
	wantDraws(t, &d, 29, 0x0102030405060708)
	wantDraws(t, &d, 29)
	wantTooFew(t, &d, 4, 29)
	wantDraws(t, &d, 5, 0x090a0b0c0d0e0f10, 0x1112131415161718, 0x191a1b1c1d1e1f20)
	wantTooFew(t, &d, 1, 5)
	wantTooFew(t, &d, 3, 5)
	wantDraws(t, &d, 5)
}

func TestDrawsOfEveryLength(t *testing.T) {
	for n := range 40 {
		d := Of(count(n))
		if d.Left() != n {
			t.Errorf("P6: Left of %d bytes = %d", n, d.Left())
		}
		wantTooFew(t, &d, n/Size+1, n)
		if ok := d.Fill(make([]uint64, n/Size)); !ok || d.Left() != n%Size {
			t.Errorf("P5: too few numbers of %d bytes", n)
		}
		wantTooFew(t, &d, 1, n%Size)
	}
	var none Draws
	wantTooFew(t, &none, 1, 0)
}

func TestDrawsHoldTheHighBit(t *testing.T) {
	d := Of([]byte{255, 255, 255, 255, 255, 255, 255, 254, 128, 0, 0, 0, 0, 0, 0, 0})
	wantDraws(t, &d, 0, 1<<64-2, 1<<63)
}

func TestDrawsAreACopy(t *testing.T) {
	data := count(16)
	d := Of(data)
	clear(data)
	wantDraws(t, &d, 8, 0x0102030405060708)
	copied := d
	wantDraws(t, &d, 0, 0x090a0b0c0d0e0f10)
	wantDraws(t, &copied, 0, 0x090a0b0c0d0e0f10)
	for i, b := range data {
		if b != 0 {
			t.Errorf("P2: the byte %d of what was handed in was written", i)
		}
	}
}
