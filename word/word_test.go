package word_test

import (
	"math"
	"math/big"
	"strings"
	"testing"

	"braid/api"
	"braid/word"
)

const (
	most  int64 = math.MaxInt64
	least int64 = math.MinInt64
)

// edges are the numbers at which operators, sums and texts may break; every pair of them is tried.
var edges = []int64{
	least, least + 1, least + 2, least / 2, least/2 - 1, -4294967296, -3037000500, -3037000499, -65, -64, -63, -10, -8, -7, -3, -2, -1,
	0, 1, 2, 3, 7, 8, 10, 63, 64, 65, 127, 3037000499, 3037000500, 4294967296, most / 2, most/2 + 1, most - 1, most,
}

var noOps = []word.Op{0, 13, -1, -12, 14, 1 << 32, 1<<32 + 1, math.MinInt, math.MaxInt}

var noRels = []word.Rel{0, 7, -1, -6, 8, 1 << 32, 1<<32 + 1, math.MinInt, math.MaxInt}

func whole(n int64) *big.Int { return big.NewInt(n) }

// wrapped reads a whole number modulo 2^64 as an int64.
func wrapped(n *big.Int) int64 {
	mask := new(big.Int).SetUint64(math.MaxUint64)
	return int64(new(big.Int).And(n, mask).Uint64())
}

// stopped is the int64 that lies nearest to a whole number.
func stopped(n *big.Int) int64 {
	if n.IsInt64() {
		return n.Int64()
	}
	if n.Sign() < 0 {
		return least
	}
	return most
}

// sixBits is b modulo 64, never negative.
func sixBits(b int64) uint { return uint((b%64 + 64) % 64) }

// meant is what the document's table asks of an operator, counted with whole numbers.
func meant(op word.Op, a, b int64) int64 {
	n := new(big.Int)
	switch op {
	case word.Add:
		n.Add(whole(a), whole(b))
	case word.Sub:
		n.Sub(whole(a), whole(b))
	case word.Mul:
		n.Mul(whole(a), whole(b))
	case word.Div:
		if b != 0 {
			n.Quo(whole(a), whole(b))
		}
	case word.Rem:
		n.SetInt64(a)
		if b != 0 {
			n.Rem(whole(a), whole(b))
		}
	case word.And:
		n.And(whole(a), whole(b))
	case word.Or:
		n.Or(whole(a), whole(b))
	case word.Xor:
		n.Xor(whole(a), whole(b))
	case word.Shl:
		n.Lsh(whole(a), sixBits(b))
	case word.Shr:
		n.Rsh(whole(a), sixBits(b))
	case word.Min:
		if n.SetInt64(a); whole(b).Cmp(n) < 0 {
			n.SetInt64(b)
		}
	case word.Max:
		if n.SetInt64(a); whole(b).Cmp(n) > 0 {
			n.SetInt64(b)
		}
	}
	return wrapped(n)
}

func eachPair(try func(a, b int64)) {
	for _, a := range edges {
		for _, b := range edges {
			try(a, b)
		}
	}
}

func TestConstantsHaveTheDocumentsNumbers(t *testing.T) {
	ops := []word.Op{word.Add, word.Sub, word.Mul, word.Div, word.Rem, word.And, word.Or, word.Xor, word.Shl, word.Shr, word.Min, word.Max}
	for i, op := range ops {
		if int(op) != i+1 {
			t.Errorf("operator %d has the number %d", i+1, op)
		}
	}
	rels := []word.Rel{word.Eq, word.Ne, word.Lt, word.Le, word.Gt, word.Ge}
	for i, rel := range rels {
		if int(rel) != i+1 {
			t.Errorf("relation %d has the number %d", i+1, rel)
		}
	}
	errnos := []api.Errno{api.ErrOp, api.ErrRel, api.ErrNumber, api.ErrRange}
	for i, e := range errnos {
		if int(e) != i+10 {
			t.Errorf("error %d has the number %d", i+10, e)
		}
	}
	if api.OK != 0 {
		t.Errorf("OK has the number %d", api.OK)
	}
}

// P1.1, worked examples 1 to 4.
func TestApplyExamples(t *testing.T) {
	examples := []struct {
		op         word.Op
		a, b, want int64
	}{
		{word.Add, 9223372036854775807, 1, -9223372036854775808},
		{word.Mul, 4611686018427387904, 2, -9223372036854775808},
		{word.Mul, 3037000500, 3037000500, -9223372036709301616},
		{word.Div, -7, 2, -3},
		{word.Rem, -7, 2, -1},
		{word.Div, 7, 0, 0},
		{word.Rem, 7, 0, 7},
		{word.Div, -9223372036854775808, -1, -9223372036854775808},
		{word.Rem, -9223372036854775808, -1, 0},
		{word.Shl, 1, 63, -9223372036854775808},
		{word.Shl, 5, 64, 5},
		{word.Shl, 5, 65, 10},
		{word.Shr, -8, 1, -4},
		{word.Shr, -8, -1, -1},
		{word.Shl, 3, -1, -9223372036854775808},
	}
	for _, x := range examples {
		if n, e := word.Apply(x.op, x.a, x.b); n != x.want || e != api.OK {
			t.Errorf("Apply(%d, %d, %d) = %d, %d, want %d, OK", x.op, x.a, x.b, n, e, x.want)
		}
	}
}

// P1.1, the table.
func TestApplyIsTheTable(t *testing.T) {
	for op := word.Add; op <= word.Max; op++ {
		eachPair(func(a, b int64) {
			want := meant(op, a, b)
			if n, e := word.Apply(op, a, b); n != want || e != api.OK {
				t.Errorf("Apply(%d, %d, %d) = %d, %d, want %d, OK", op, a, b, n, e, want)
			}
		})
	}
}

// P1.1: at every count, a shift is one by its lowest six bits.
func TestShiftCounts(t *testing.T) {
	for b := int64(-200); b <= 200; b++ {
		for _, a := range edges {
			for _, op := range []word.Op{word.Shl, word.Shr} {
				want := meant(op, a, b)
				if n, e := word.Apply(op, a, b); n != want || e != api.OK {
					t.Errorf("Apply(%d, %d, %d) = %d, %d, want %d, OK", op, a, b, n, e, want)
				}
			}
		}
	}
}

// P1.1: a is Add(Mul(Div(a, b), b), Rem(a, b)).
func TestQuotientAndRemainderMakeTheNumberAgain(t *testing.T) {
	eachPair(func(a, b int64) {
		quotient, _ := word.Apply(word.Div, a, b)
		rest, _ := word.Apply(word.Rem, a, b)
		product, _ := word.Apply(word.Mul, quotient, b)
		if sum, _ := word.Apply(word.Add, product, rest); sum != a {
			t.Errorf("%d by %d: quotient %d, rest %d, again %d", a, b, quotient, rest, sum)
		}
	})
}

// P1.1, worked example 5.
func TestApplyRefusesOtherOperators(t *testing.T) {
	for _, op := range noOps {
		eachPair(func(a, b int64) {
			if n, e := word.Apply(op, a, b); n != 0 || e != api.ErrOp {
				t.Errorf("Apply(%d, %d, %d) = %d, %d, want 0, ErrOp", op, a, b, n, e)
			}
		})
	}
}

// P1.2.
func TestHoldsIsTheRelation(t *testing.T) {
	eachPair(func(a, b int64) {
		c := whole(a).Cmp(whole(b))
		wants := []bool{c == 0, c != 0, c < 0, c <= 0, c > 0, c >= 0}
		for i, want := range wants {
			if h, e := word.Holds(word.Rel(i+1), a, b); h != want || e != api.OK {
				t.Errorf("Holds(%d, %d, %d) = %v, %d, want %v, OK", i+1, a, b, h, e, want)
			}
		}
	})
}

// P1.2, worked example 5.
func TestHoldsRefusesOtherRelations(t *testing.T) {
	for _, rel := range noRels {
		eachPair(func(a, b int64) {
			if h, e := word.Holds(rel, a, b); h || e != api.ErrRel {
				t.Errorf("Holds(%d, %d, %d) = %v, %d, want false, ErrRel", rel, a, b, h, e)
			}
		})
	}
}

// P1.3.
func TestOperatorNames(t *testing.T) {
	for i, name := range strings.Fields("add sub mul div rem and or xor shl shr min max") {
		if got := word.OpName(word.Op(i + 1)); got != name {
			t.Errorf("OpName(%d) = %q, want %q", i+1, got, name)
		}
		if op, e := word.OpNamed(name); op != word.Op(i+1) || e != api.OK {
			t.Errorf("OpNamed(%q) = %d, %d, want %d, OK", name, op, e, i+1)
		}
	}
	for _, op := range noOps {
		if got := word.OpName(op); got != "" {
			t.Errorf("OpName(%d) = %q, want none", op, got)
		}
	}
	for _, name := range []string{"", "Add", "ADD", "add ", " add", "ad", "addd", "add\x00", "+", "==", "not", "\xff"} {
		if op, e := word.OpNamed(name); op != 0 || e != api.ErrOp {
			t.Errorf("OpNamed(%q) = %d, %d, want 0, ErrOp", name, op, e)
		}
	}
}

// P1.3.
func TestRelationNames(t *testing.T) {
	for i, name := range strings.Fields("== != < <= > >=") {
		if got := word.RelName(word.Rel(i + 1)); got != name {
			t.Errorf("RelName(%d) = %q, want %q", i+1, got, name)
		}
		if rel, e := word.RelNamed(name); rel != word.Rel(i+1) || e != api.OK {
			t.Errorf("RelNamed(%q) = %d, %d, want %d, OK", name, rel, e, i+1)
		}
	}
	for _, rel := range noRels {
		if got := word.RelName(rel); got != "" {
			t.Errorf("RelName(%d) = %q, want none", rel, got)
		}
	}
	for _, name := range []string{"", "=", "===", "!", "=<", "=>", "<>", "< ", " <", "eq", "add", "\xff"} {
		if rel, e := word.RelNamed(name); rel != 0 || e != api.ErrRel {
			t.Errorf("RelNamed(%q) = %d, %d, want 0, ErrRel", name, rel, e)
		}
	}
}

// P1.4, worked examples 6 and 7.
func TestStopExamples(t *testing.T) {
	sums := [][3]int64{
		{9223372036854775807, 1, 9223372036854775807},
		{-9223372036854775808, -1, -9223372036854775808},
		{9223372036854775807, -9223372036854775808, -1},
	}
	for _, x := range sums {
		if n := word.SatAdd(x[0], x[1]); n != x[2] {
			t.Errorf("SatAdd(%d, %d) = %d, want %d", x[0], x[1], n, x[2])
		}
	}
	products := [][3]int64{
		{-9223372036854775808, -1, 9223372036854775807},
		{3037000500, 3037000500, 9223372036854775807},
		{3037000499, 3037000499, 9223372030926249001},
		{-3037000500, 3037000500, -9223372036854775808},
		{4611686018427387904, -2, -9223372036854775808},
	}
	for _, x := range products {
		if n := word.SatMul(x[0], x[1]); n != x[2] {
			t.Errorf("SatMul(%d, %d) = %d, want %d", x[0], x[1], n, x[2])
		}
	}
}

// P1.4.
func TestStopsAtTheEnds(t *testing.T) {
	eachPair(func(a, b int64) {
		want := stopped(new(big.Int).Add(whole(a), whole(b)))
		if n := word.SatAdd(a, b); n != want {
			t.Errorf("SatAdd(%d, %d) = %d, want %d", a, b, n, want)
		}
		want = stopped(new(big.Int).Mul(whole(a), whole(b)))
		if n := word.SatMul(a, b); n != want {
			t.Errorf("SatMul(%d, %d) = %d, want %d", a, b, n, want)
		}
	})
}

// P1.5, worked example 8 among them.
func TestTextsOfNumbers(t *testing.T) {
	texts := map[string]int64{"-9223372036854775808": least, "9223372036854775807": most, "-17": -17, "0": 0, "9": 9, "10": 10, "-1": -1, "100": 100}
	for s, n := range texts {
		if got := word.Format(n); got != s {
			t.Errorf("Format(%d) = %q, want %q", n, got, s)
		}
		if got, e := word.Parse(s); got != n || e != api.OK {
			t.Errorf("Parse(%q) = %d, %d, want %d, OK", s, got, e, n)
		}
	}
	for _, n := range edges {
		if s := word.Format(n); s != whole(n).String() {
			t.Errorf("Format(%d) = %q", n, s)
		}
		if got, e := word.Parse(word.Format(n)); got != n || e != api.OK {
			t.Errorf("Parse(Format(%d)) = %d, %d", n, got, e)
		}
	}
}

// P1.5.
func TestParseRefusesOtherTexts(t *testing.T) {
	long := strings.Repeat("9", 100000)
	wrong := []string{
		"", "-", "--", "--1", "-0", "00", "-00", "017", "-017", "01", "+1", "+0", "+", " 1", "1 ", "1 2", "\t1", "1\n", "1x", "x1", "x",
		"1-", "1-2", "1_0", "1.0", "1e3", "0x1", "0b1", "1\x00", "\xff", "٣", "1٣", "/", ":", "1/", "1:",
		"99999999999999999999x", "-99999999999999999999x", "9223372036854775808 ", "099999999999999999999", "-099999999999999999999", long + "x", "0" + long,
	}
	for _, s := range wrong {
		if n, e := word.Parse(s); n != 0 || e != api.ErrNumber {
			t.Errorf("Parse(%.40q) = %d, %d, want 0, ErrNumber", s, n, e)
		}
	}
	beyond := []string{"9223372036854775808", "-9223372036854775809", "18446744073709551616", "18446744073709551615", "99999999999999999999", "-99999999999999999999", long, "-" + long}
	for _, s := range beyond {
		if n, e := word.Parse(s); n != 0 || e != api.ErrRange {
			t.Errorf("Parse(%.40q) = %d, %d, want 0, ErrRange", s, n, e)
		}
	}
}

// counts tells a fault where a stream's two counts are others.
func counts(t *testing.T, when string, d *word.Draws, taken, left int) {
	t.Helper()
	if d.Taken() != taken || d.Left() != left {
		t.Errorf("%s: Taken %d, Left %d, want %d, %d", when, d.Taken(), d.Left(), taken, left)
	}
}

// P1.6, worked example 9.
func TestDrawsExample(t *testing.T) {
	d := word.NewDraws([]int64{5, -1, 7})
	counts(t, "at the beginning", d, 0, 3)
	steps := []struct {
		name        string
		draw        func() int64
		want        int64
		taken, left int
	}{
		{"Below(1)", func() int64 { return d.Below(1) }, 0, 0, 3},
		{"Next", d.Next, 5, 1, 2},
		{"Below(10)", func() int64 { return d.Below(10) }, 5, 2, 1},
		{"Below(4)", func() int64 { return d.Below(4) }, 3, 3, 0},
		{"Next at the end", d.Next, 0, 3, 0},
		{"Below(9) at the end", func() int64 { return d.Below(9) }, 0, 3, 0},
	}
	for _, s := range steps {
		if n := s.draw(); n != s.want {
			t.Errorf("%s = %d, want %d", s.name, n, s.want)
		}
		counts(t, s.name, d, s.taken, s.left)
	}
}

// P1.6: Next tells the raw numbers, the ends of int64 too.
func TestNextTellsTheRawNumbers(t *testing.T) {
	d := word.NewDraws(edges)
	for i, want := range edges {
		if n := d.Next(); n != want {
			t.Errorf("draw %d = %d, want %d", i, n, want)
		}
		counts(t, "Next", d, i+1, len(edges)-i-1)
	}
}

// P1.6: Below reads a number as unsigned.
func TestBelowReadsUnsigned(t *testing.T) {
	eachPair(func(x, n int64) {
		d := word.NewDraws([]int64{x, 77})
		if n <= 1 {
			if got := d.Below(n); got != 0 {
				t.Errorf("over %d: Below(%d) = %d, want 0", x, n, got)
			}
			counts(t, "Below takes nothing", d, 0, 2)
			return
		}
		unsigned := new(big.Int).SetUint64(uint64(x))
		want := unsigned.Mod(unsigned, whole(n)).Int64()
		if got := d.Below(n); got != want {
			t.Errorf("over %d: Below(%d) = %d, want %d", x, n, got, want)
		}
		counts(t, "Below takes one", d, 1, 1)
	})
}

// P1.6: a stream keeps a copy, and leaves the caller's list as it is.
func TestDrawsKeepTheirOwnCopy(t *testing.T) {
	raw := []int64{1, 2, 3, 4}
	d := word.NewDraws(raw[:3])
	raw[0], raw[2] = 90, 92
	if a, b, c, end := d.Next(), d.Next(), d.Next(), d.Next(); a != 1 || b != 2 || c != 3 || end != 0 {
		t.Errorf("%d, %d, %d, %d, want 1, 2, 3, 0", a, b, c, end)
	}
	if raw[0] != 90 || raw[1] != 2 || raw[2] != 92 || raw[3] != 4 {
		t.Errorf("the caller's list is %v", raw)
	}
}

// P1.6: two streams, of one list too, have nothing to do with one another.
func TestStreamsAreApart(t *testing.T) {
	raw := []int64{8, 9}
	one, two := word.NewDraws(raw), word.NewDraws(raw)
	if n := one.Next(); n != 8 {
		t.Errorf("the first stream's Next = %d", n)
	}
	counts(t, "the second stream", two, 0, 2)
	if n := two.Next(); n != 8 {
		t.Errorf("the second stream's Next = %d", n)
	}
	if n := one.Next(); n != 9 {
		t.Errorf("the first stream's Next = %d", n)
	}
	counts(t, "the second stream", two, 1, 1)
}

// P1.6: the zero value, a nil one, and one over no list are streams over the empty list.
func TestEmptyStreams(t *testing.T) {
	var none *word.Draws
	for i, d := range []*word.Draws{none, {}, word.NewDraws(nil), word.NewDraws([]int64{})} {
		for range 3 {
			if d.Next() != 0 || d.Below(7) != 0 || d.Below(0) != 0 || d.Below(least) != 0 || d.Below(most) != 0 {
				t.Errorf("empty stream %d tells a number", i)
			}
		}
		counts(t, "an empty stream", d, 0, 0)
	}
}
