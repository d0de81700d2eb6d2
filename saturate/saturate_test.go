package saturate

import (
	"math"
	"math/big"
	"testing"
)

type steps int16

// clamp is v between least and greatest.
func clamp(v, least, greatest int) int {
	return max(least, min(v, greatest))
}

func TestAllNumbersOfEightBits(t *testing.T) {
	for a := -128; a < 128; a++ {
		for b := -128; b < 128; b++ {
			one, other := int8(a), int8(b)
			if sum := Sum(one, other); int(sum) != clamp(a+b, -128, 127) {
				t.Errorf("Sum(%d, %d) = %d", a, b, sum)
			}
			if difference := Difference(one, other); int(difference) != clamp(a-b, -128, 127) {
				t.Errorf("Difference(%d, %d) = %d", a, b, difference)
			}
			if apart := Apart(one, other); int(apart) != clamp(max(a-b, b-a), 0, 127) {
				t.Errorf("Apart(%d, %d) = %d", a, b, apart)
			}
		}
	}
}

// within gives v, or the greatest or the least number of 64 bits.
func within(v *big.Int) int64 {
	switch {
	case v.IsInt64():
		return v.Int64()
	case v.Sign() < 0:
		return math.MinInt64
	}
	return math.MaxInt64
}

func TestTimesAtTheirEdges(t *testing.T) {
	edges := []int64{0, 1, -1, 2, -2, 300, -300, 1000, math.MaxInt64 / 2, math.MinInt64 / 2, math.MaxInt64/2 + 1, math.MinInt64/2 - 1,
		math.MaxInt64, math.MaxInt64 - 1, math.MaxInt64 - 300, math.MinInt64, math.MinInt64 + 1, math.MinInt64 + 300}
	for _, a := range edges {
		for _, b := range edges {
			bigA, bigB := big.NewInt(a), big.NewInt(b)
			if got, want := Sum(a, b), within(new(big.Int).Add(bigA, bigB)); got != want {
				t.Errorf("Sum(%d, %d) = %d, want %d", a, b, got, want)
			}
			difference := new(big.Int).Sub(bigA, bigB)
			if got, want := Difference(a, b), within(difference); got != want {
				t.Errorf("Difference(%d, %d) = %d, want %d", a, b, got, want)
			}
			if got, want := Apart(a, b), within(difference.Abs(difference)); got != want {
				t.Errorf("Apart(%d, %d) = %d, want %d", a, b, got, want)
			}
		}
	}
}

func TestOtherKinds(t *testing.T) {
	if v := Sum[steps](30000, 30000); v != math.MaxInt16 {
		t.Errorf("Sum of steps = %d", v)
	}
	if v := Difference[steps](-30000, 30000); v != math.MinInt16 {
		t.Errorf("Difference of steps = %d", v)
	}
	if v := Sum[int32](math.MinInt32, -1); v != math.MinInt32 {
		t.Errorf("Sum of 32 bits = %d", v)
	}
	if v := Apart[int](math.MinInt, math.MaxInt); v != math.MaxInt {
		t.Errorf("Apart of int = %d", v)
	}
}
