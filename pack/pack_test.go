package pack_test

import (
	"bytes"
	"hash/crc32"
	"math"
	"slices"
	"testing"

	"braid/api"
	"braid/fixture"
	"braid/pack"
)

// Chapter 26's example 1.
func TestExample1(t *testing.T) {
	stands(t, nil, []byte{66, 82, 68, 49})
	stands(t, []api.Row{}, []byte{66, 82, 68, 49})
	refused(t, nil, 0, api.ErrMagic, nil)
	refused(t, []byte{66, 82, 68, 49, 0}, 0, api.ErrEnd, nil)
}

// Chapter 26's example 2.
func TestExample2(t *testing.T) {
	b := packs(t, []api.Row{example()})
	if want := []byte{66, 82, 68, 49, 0, 6, 1, 4, 81, 1, 10, 10, 1}; !bytes.HasPrefix(b, want) || len(b) != len(want)+4 {
		t.Errorf("Pack = %v", b)
	}
	stands(t, []api.Row{example()}, packed(sealed(1, 4, 81, 1, 10, 10, 1)))
}

// Chapter 26's example 3.
func TestExample3(t *testing.T) {
	second, other := example(), api.Row{Thread: 1, Step: 9}
	second.Step = 6
	stands(t, []api.Row{example(), second}, packed(sealed(2, 4, 81, 1, 10, 10, 1, 4, 1, 1, 2)))
	stands(t, []api.Row{example(), other, second}, packed(sealed(3, 4, 81, 1, 10, 10, 1, 2, 1, 0, 18, 4, 1, 1, 2)))
}

// Chapter 26's example 4.
func TestExample4(t *testing.T) {
	ones := slices.Repeat([]byte{255}, 9)
	for _, varint := range [][]byte{{128, 0}, append(slices.Repeat([]byte{128}, 10), 1), append(ones, 2)} {
		refused(t, packed(sealed(1, append(varint, 0, 0)...)), 0, api.ErrBlock, nil)
	}
	stands(t, []api.Row{{Thread: math.MinInt}}, packed(sealed(1, append(ones, 1, 0, 0)...)))
}

// Chapter 26's example 5.
func TestExample5(t *testing.T) {
	d := fixture.NewDice()
	rows := played(t, &d, 65)[:65]
	b := packs(t, rows)
	if list, e := pack.Blocks(b); !slices.Equal(list, []int{64, 1}) || e != api.OK {
		t.Errorf("Blocks = %v, %d", list, e)
	}
	for bit := range 32 {
		spoilt := slices.Clone(b)
		spoilt[len(b)-4+bit/8] ^= 1 << (bit % 8)
		refused(t, spoilt, 1, api.ErrBlock, rows[:64])
	}
}

// P26.1: no bytes, one byte of each value, two, long lists.
func TestSum(t *testing.T) {
	sums := func(b []byte) {
		t.Helper()
		was := slices.Clone(b)
		if sum := pack.Sum(b); sum != plainSum(b) || sum != crc32.ChecksumIEEE(b) || !bytes.Equal(b, was) {
			t.Errorf("Sum(%v) = %d, want %d", was, sum, plainSum(b))
		}
	}
	sums(nil)
	for n := range 1 << 16 {
		if n < 256 {
			sums([]byte{byte(n)})
		}
		sums([]byte{byte(n >> 8), byte(n)})
	}
	d := fixture.NewDice()
	for range 200 {
		b := make([]byte, d.Below(3000))
		for i := range b {
			b[i] = byte(d.Roll())
		}
		sums(b)
	}
	sums(slices.Repeat([]byte{0}, 5000))
	sums(slices.Repeat([]byte{255}, 5000))
}

func TestKnownSums(t *testing.T) {
	if sum := pack.Sum([]byte("123456789")); sum != 3421780262 {
		t.Errorf("Sum(123456789) = %d", sum)
	}
	for _, b := range [][]byte{nil, {}} {
		if sum := pack.Sum(b); sum != 0 {
			t.Errorf("Sum of no bytes = %d", sum)
		}
	}
}

// The Sum of bytes is theirs alone, whatever stands behind them.
func TestSumOfApart(t *testing.T) {
	b := fixture.Roomy([]byte("123456789"), 7)
	if sum := pack.Sum(b); sum != 3421780262 || !bytes.Equal(b[:cap(b)][9:12], []byte{7, 7, 7}) {
		t.Errorf("Sum = %d, behind it %v", sum, b[:cap(b)][9:])
	}
}
