package draws

import "testing"

func wantDraw(t *testing.T, d *Draws, want uint64, left int) {
	t.Helper()
	if draw, ok := d.Take(); draw != want || !ok || d.Left() != left {
		t.Errorf("P5: Take() = %#x, %v, %d left, want %#x, %d left", draw, ok, d.Left(), want, left)
	}
}

func wantNoDraw(t *testing.T, d *Draws, left int) {
	t.Helper()
	for range 2 {
		if draw, ok := d.Take(); draw != 0 || ok || d.Left() != left {
			t.Errorf("P5: Take() = %#x, %v, %d left, want none, %d left", draw, ok, d.Left(), left)
		}
	}
}

func count(n int) []byte {
	data := make([]byte, n)
	for i := range data {
		data[i] = byte(i + 1)
	}
	return data
}

func TestDrawsAreTakenInTheirOrder(t *testing.T) {
	d := Of(count(29))
	wantDraw(t, &d, 0x0102030405060708, 21)
	wantDraw(t, &d, 0x090a0b0c0d0e0f10, 13)
	wantDraw(t, &d, 0x1112131415161718, 5)
	wantNoDraw(t, &d, 5)
}

func TestDrawsOfEveryLength(t *testing.T) {
	for n := range 40 {
		d := Of(count(n))
		if d.Left() != n {
			t.Errorf("P6: Left of %d bytes = %d", n, d.Left())
		}
		for range n / Size {
			if _, ok := d.Take(); !ok {
				t.Errorf("P5: too few numbers of %d bytes", n)
			}
		}
		wantNoDraw(t, &d, n%Size)
	}
	var none Draws
	wantNoDraw(t, &none, 0)
}

func TestDrawsHoldTheHighBit(t *testing.T) {
	d := Of([]byte{255, 255, 255, 255, 255, 255, 255, 254, 128, 0, 0, 0, 0, 0, 0, 0})
	wantDraw(t, &d, 1<<64-2, 8)
	wantDraw(t, &d, 1<<63, 0)
}

func TestDrawsAreACopy(t *testing.T) {
	data := count(16)
	d := Of(data)
	clear(data)
	wantDraw(t, &d, 0x0102030405060708, 8)
	copied := d
	wantDraw(t, &d, 0x090a0b0c0d0e0f10, 0)
	wantDraw(t, &copied, 0x090a0b0c0d0e0f10, 0)
	for i, b := range data {
		if b != 0 {
			t.Errorf("P2: the byte %d of what was handed in was written", i)
		}
	}
}
