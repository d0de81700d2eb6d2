// Package saturate: sums and differences that stop at the greatest and the least number of their kind.
package saturate

// Signed has the kinds of whole numbers with a sign.
type Signed interface {
	~int | ~int8 | ~int16 | ~int32 | ~int64
}

// Sum gives a plus b.
func Sum[T Signed](a, b T) T {
	sum := a + b
	switch {
	case b > 0 && sum < a:
		return greatest[T]()
	case b < 0 && sum > a:
		return least[T]()
	}
	return sum
}

// Difference gives a less b.
func Difference[T Signed](a, b T) T {
	// Not the sum of a and -b: the least number has no opposite.
	difference := a - b
	switch {
	case b < 0 && difference < a:
		return greatest[T]()
	case b > 0 && difference > a:
		return least[T]()
	}
	return difference
}

// Apart gives the absolute of the difference.
func Apart[T Signed](a, b T) T {
	if a < b {
		a, b = b, a
	}
	return Difference(a, b)
}

// greatest fills up with bits from below, until one more would be the sign.
func greatest[T Signed]() T {
	v := T(1)
	for v<<1 > v {
		v = v<<1 | 1
	}
	return v
}

func least[T Signed]() T {
	return -greatest[T]() - 1
}
