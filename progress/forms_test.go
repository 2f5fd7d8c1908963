package progress_test

import (
	"math"
	"math/big"
	"testing"

	"braid/fixture"
	"braid/progress"
)

// number is what a big number is as an answer.
func number(n, patience int64, x *big.Int) int64 {
	if n < 0 || patience < 0 || !x.IsInt64() {
		return -1
	}
	return x.Int64()
}

// line is a * x + b * y + c.
func line(a, x, b, y, c int64) *big.Int {
	sum := new(big.Int).Mul(big.NewInt(a), big.NewInt(x))
	sum.Add(sum, new(big.Int).Mul(big.NewInt(b), big.NewInt(y)))
	return sum.Add(sum, big.NewInt(c))
}

func bigBound(n, patience int64) int64 {
	x := new(big.Int).Mul(big.NewInt(n), line(5, patience, 2, n, 12))
	return number(n, patience, x.Add(x, big.NewInt(2)))
}

func bigDeadline(n, patience int64) int64 {
	x := new(big.Int).Mul(line(2, n, 0, 0, 2), line(10, patience, 2, n, 26))
	return number(n, patience, x.Add(x, big.NewInt(8)))
}

func forms(t *testing.T, n, patience, bound, deadline int64) {
	t.Helper()
	if b, d := progress.Bound(n, patience), progress.Deadline(n, patience); b != bound || d != deadline {
		t.Errorf("of %d and %d: Bound %d, Deadline %d, want %d, %d", n, patience, b, d, bound, deadline)
	}
}

// Chapter 21's example 1, and numbers by hand.
func TestFormsByHand(t *testing.T) {
	const most = math.MaxInt64
	forms(t, 0, 5, 2, 160)
	forms(t, 1, 0, 16, 120)
	forms(t, 3, 2, 86, 424)
	forms(t, 0, 0, 2, 60)
	forms(t, 64, 4096, 64*(5*4096+2*64+12)+2, 2*65*(10*4096+2*64+26)+8)
	forms(t, -1, 0, -1, -1)
	forms(t, 0, -1, -1, -1)
	forms(t, -1, -1, -1, -1)
	forms(t, -3, -2, -1, -1) // though their numbers would be above 0
	forms(t, math.MinInt64, 7, -1, -1)
	forms(t, 7, math.MinInt64, -1, -1)
	forms(t, math.MinInt64, math.MinInt64, -1, -1)
	forms(t, 1<<31, 0, -1, -1)
	forms(t, 1<<31, 1, -1, -1)
	forms(t, 1<<32, 0, -1, -1)
	forms(t, 1<<40, 0, -1, -1)
	forms(t, most, 0, -1, -1)
	forms(t, most, most, -1, -1)
	forms(t, 0, most, 2, -1)
	forms(t, 1, most, -1, -1)
	forms(t, most, 1, -1, -1)
}

// The numbers next to the end of int64, on both sides of it.
func TestFormsAtTheEnd(t *testing.T) {
	const most = math.MaxInt64
	for _, c := range []struct{ n, patience, bound int64 }{
		{1, 1844674407370955158, most - 1}, {1, 1844674407370955159, -1},
		{115, 16040647020616953, most}, {115, 16040647020616954, -1}, {116, 16040647020616953, -1},
		{7, 263524915338707875, -1}, {127, 14524995333629515, -1}, // beyond it by 2
	} {
		if b := progress.Bound(c.n, c.patience); b != c.bound {
			t.Errorf("Bound(%d, %d) = %d, want %d", c.n, c.patience, b, c.bound)
		}
	}
	for _, c := range []struct{ n, patience, deadline int64 }{
		{0, 461168601842738787, most - 7}, {0, 461168601842738788, -1},
		{28, 15902365580784088, most - 3}, {28, 15902365580784089, -1}, {29, 15902365580784088, -1},
		{2, 153722867280912927, -1}, {62, 7320136537186315, -1}, // beyond it by 1
	} {
		if d := progress.Deadline(c.n, c.patience); d != c.deadline {
			t.Errorf("Deadline(%d, %d) = %d, want %d", c.n, c.patience, d, c.deadline)
		}
	}
}

// last is the greatest number for which a form has one; it has one for 0.
func last(form func(int64) int64) int64 {
	low, high := int64(0), int64(math.MaxInt64)
	for low < high {
		if half := high - (high-low)/2; form(half) < 0 {
			high = half - 1
		} else {
			low = half
		}
	}
	return low
}

// The greatest n of a patience and the greatest patience of an n, and one more.
func TestLastForms(t *testing.T) {
	around := func(n, patience int64) {
		t.Helper()
		forms(t, n, patience, bigBound(n, patience), bigDeadline(n, patience))
	}
	for _, x := range []int64{0, 1, 2, 3, 10, 115, 4096, 1 << 20, 1 << 31, 1 << 32, 1 << 40} {
		for _, form := range []func(n, patience int64) int64{bigBound, bigDeadline} {
			if form(0, x) >= 0 {
				n := last(func(n int64) int64 { return form(n, x) })
				around(n, x)
				around(n+1, x)
			}
			if form(x, 0) >= 0 && form(x, math.MaxInt64) < 0 { // the Bound of 0 has no last patience
				patience := last(func(patience int64) int64 { return form(x, patience) })
				around(x, patience)
				around(x, patience+1)
			}
		}
	}
}

// Thrown numbers, great and small, against numbers without bound.
func TestThrownForms(t *testing.T) {
	d := fixture.NewDice()
	thrown := func() int64 {
		if d.Below(5) == 0 {
			return fixture.Edge(&d)
		}
		return int64(d.Roll()>>1) >> d.Below(63)
	}
	beyond, within := 0, 0
	for range 50000 {
		n, patience := thrown(), thrown()
		b, deadline := bigBound(n, patience), bigDeadline(n, patience)
		forms(t, n, patience, b, deadline)
		if n >= 0 && patience >= 0 && b < 0 {
			beyond++
		}
		if b > 1<<40 {
			within++
		}
	}
	if beyond < 1000 || within < 1000 {
		t.Errorf("%d beyond int64, %d great ones within it", beyond, within)
	}
}
