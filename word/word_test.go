package word

import (
	"math"
	"math/big"
	"scrimshaw/api"
	"testing"
)

const least = -api.MaxInt - 1

// numbers are chosen so that sums, products and quotients of two of them lie on both sides of every bound.
var numbers = []int{
	least, least + 1, least / 2, least/2 - 1, least/2 + 1, -1 << 31, -1<<30 - 1, -1 << 30, -1<<30 + 1, -1000003, -8, -7, -3, -2, -1,
	0, 1, 2, 3, 7, 8, 1000003, 1<<30 - 1, 1 << 30, 1<<30 + 1, 1 << 31, api.MaxInt / 2, api.MaxInt/2 + 1, api.MaxInt/2 + 2, api.MaxInt/3 + 1, api.MaxInt - 1, api.MaxInt,
}

// anyInts are ints that no caller need have got from this package.
var anyInts = []int{math.MinInt, math.MinInt + 1, math.MinInt + 7, -1 << 61, least - 1, least, -17, -9, -8, -7, -1, 0, 1, 2, 3, 4, 5, 6, 7, 8, 9, 17, api.MaxInt, api.MaxInt + 1, 1 << 61, math.MaxInt - 7, math.MaxInt - 1, math.MaxInt}

type answer struct {
	w int
	e api.Errno
}

func of(w int, e api.Errno) answer { return answer{w, e} }

func must(t *testing.T, n int) int {
	t.Helper()
	w, e := Int(n)
	if e != api.OK {
		t.Fatalf("Int(%d): %v", n, e)
	}
	return w
}

// P1.1

func TestInt(t *testing.T) {
	for _, c := range []struct {
		n    int
		want answer
	}{
		{0, answer{0, api.OK}},
		{5, answer{40, api.OK}},
		{-1, answer{-8, api.OK}},
		{-7, answer{-56, api.OK}},
		{api.MaxInt, answer{math.MaxInt - 7, api.OK}},
		{least, answer{math.MinInt, api.OK}},
		{api.MaxInt + 1, answer{0, api.ErrWordOver}},
		{least - 1, answer{0, api.ErrWordOver}},
		{1 << 61, answer{0, api.ErrWordOver}},
		{math.MaxInt, answer{0, api.ErrWordOver}},
		{math.MinInt, answer{0, api.ErrWordOver}},
	} {
		if got := of(Int(c.n)); got != c.want {
			t.Errorf("Int(%d): %v, want %v", c.n, got, c.want)
		}
	}
}

func TestCountedWords(t *testing.T) {
	for _, c := range []struct {
		name string
		make func(int) (int, api.Errno)
		tag  int
	}{
		{"Place", Place, 1},
		{"Const", Const, 2},
		{"Symbol", Symbol, 3},
	} {
		for _, n := range []int{0, 1, 3, 7, 8, 255, 1 << 40, api.MaxInt - 1, api.MaxInt} {
			if got, want := of(c.make(n)), (answer{8*n + c.tag, api.OK}); got != want {
				t.Errorf("%s(%d): %v, want %v", c.name, n, got, want)
			}
		}
		for _, n := range []int{-1, -8, least, math.MinInt, api.MaxInt + 1, math.MaxInt} {
			if got, want := of(c.make(n)), (answer{0, api.ErrArg}); got != want {
				t.Errorf("%s(%d): %v, want %v", c.name, n, got, want)
			}
		}
	}
}

func TestHead(t *testing.T) {
	for _, size := range []int{0, 1, 7, 8, 4096, api.MaxSize - 1, api.MaxSize} {
		for kind := range 8 {
			if got, want := of(Head(kind, size)), (answer{8*(8*size+kind) + 7, api.OK}); got != want {
				t.Errorf("Head(%d, %d): %v, want %v", kind, size, got, want)
			}
		}
	}
	if got := of(Head(2, 1)); got != (answer{87, api.OK}) {
		t.Errorf("Head(2, 1): %v", got)
	}
	for _, c := range [][2]int{{8, 0}, {-1, 0}, {0, -1}, {0, api.MaxSize + 1}, {7, api.MaxSize + 1}, {8, -1}, {-1, 1}, {9, api.MaxSize}, {math.MaxInt, 1}, {math.MinInt, 1}, {1, math.MaxInt}, {1, math.MinInt}, {math.MinInt, math.MaxInt}} {
		if got := of(Head(c[0], c[1])); got != (answer{0, api.ErrArg}) {
			t.Errorf("Head(%d, %d): %v", c[0], c[1], got)
		}
	}
}

func TestTagAndValueOfAnyInt(t *testing.T) {
	for _, c := range [][3]int{
		{-8, 0, -1}, {-7, 1, -1}, {-1, 7, -1}, {-9, 7, -2}, {0, 0, 0}, {7, 7, 0}, {8, 0, 1}, {12, 4, 1}, {13, 5, 1}, {14, 6, 1}, {87, 7, 10},
		{math.MinInt, 0, least}, {math.MinInt + 7, 7, least}, {math.MaxInt, 7, api.MaxInt},
	} {
		if Tag(c[0]) != c[1] || Value(c[0]) != c[2] {
			t.Errorf("%d: tag %d, value %d, want %d, %d", c[0], Tag(c[0]), Value(c[0]), c[1], c[2])
		}
	}
	for _, w := range anyInts {
		tag, value := Tag(w), Value(w)
		if tag < 0 || tag > 7 || 8*value+tag != w {
			t.Errorf("%d: tag %d, value %d", w, tag, value)
		}
	}
}

// P1.2

func TestReckonTable(t *testing.T) {
	for _, c := range []struct {
		op, a, b, want int
		e              api.Errno
	}{
		{api.OpAdd, 2, 3, 5, api.OK},
		{api.OpSub, 2, 3, -1, api.OK},
		{api.OpMul, -4, 3, -12, api.OK},
		{api.OpQuo, 7, 2, 3, api.OK},
		{api.OpQuo, -7, 2, -3, api.OK},
		{api.OpQuo, 7, -2, -3, api.OK},
		{api.OpQuo, -7, -2, 3, api.OK},
		{api.OpQuo, -1, 2, 0, api.OK},
		{api.OpRem, 7, 2, 1, api.OK},
		{api.OpRem, -7, 2, -1, api.OK},
		{api.OpRem, 7, -2, 1, api.OK},
		{api.OpRem, -7, -2, -1, api.OK},
		{api.OpRem, -6, 2, 0, api.OK},
		{api.OpRem, least, -1, 0, api.OK},
		{api.OpQuo, least, 1, least, api.OK},
		{api.OpQuo, api.MaxInt, -1, -api.MaxInt, api.OK},
		{api.OpQuo, least, -1, 0, api.ErrWordOver},
		{api.OpAdd, api.MaxInt, 0, api.MaxInt, api.OK},
		{api.OpAdd, api.MaxInt - 1, 1, api.MaxInt, api.OK},
		{api.OpAdd, api.MaxInt, 1, 0, api.ErrWordOver},
		{api.OpAdd, api.MaxInt, api.MaxInt, 0, api.ErrWordOver},
		{api.OpAdd, least + 1, -1, least, api.OK},
		{api.OpAdd, least, -1, 0, api.ErrWordOver},
		{api.OpAdd, least, least, 0, api.ErrWordOver},
		{api.OpSub, least, 1, 0, api.ErrWordOver},
		{api.OpSub, 0, least, 0, api.ErrWordOver},
		{api.OpSub, -1, least, api.MaxInt, api.OK},
		{api.OpSub, least, least, 0, api.OK},
		{api.OpMul, 1 << 59, 2, 0, api.ErrWordOver},
		{api.OpMul, 1 << 59, -2, least, api.OK},
		{api.OpMul, least, -1, 0, api.ErrWordOver},
		{api.OpMul, -1, least, 0, api.ErrWordOver},
		{api.OpMul, least, 1, least, api.OK},
		{api.OpMul, least, 0, 0, api.OK},
		{api.OpMul, 0, least, 0, api.OK},
		// These products wrap round to numbers in 64 bits.
		{api.OpMul, 1 << 32, 1 << 32, 0, api.ErrWordOver},
		{api.OpMul, 1<<32 + 1, 1 << 32, 0, api.ErrWordOver},
		{api.OpMul, least, least, 0, api.ErrWordOver},
		{api.OpMul, least, 16, 0, api.ErrWordOver},
		{api.OpMul, -1 << 32, 1 << 32, 0, api.ErrWordOver},
		{api.OpMul, 1 << 59, 32, 0, api.ErrWordOver},
	} {
		want := answer{8 * c.want, c.e}
		if got := of(Reckon(c.op, must(t, c.a), must(t, c.b))); got != want {
			t.Errorf("Reckon(%d, Int(%d), Int(%d)): %v, want %v", c.op, c.a, c.b, got, want)
		}
	}
}

// reckonBig reckons without a bound, so that what Reckon tells can be held against it.
func reckonBig(op, a, b int) answer {
	x, y, z := big.NewInt(int64(a)), big.NewInt(int64(b)), new(big.Int)
	if (op == api.OpQuo || op == api.OpRem) && b == 0 {
		return answer{0, api.ErrWordZero}
	}
	switch op {
	case api.OpAdd:
		z.Add(x, y)
	case api.OpSub:
		z.Sub(x, y)
	case api.OpMul:
		z.Mul(x, y)
	case api.OpQuo:
		z.Quo(x, y)
	case api.OpRem:
		z.Rem(x, y)
	}
	if z.Cmp(big.NewInt(least)) < 0 || z.Cmp(big.NewInt(api.MaxInt)) > 0 {
		return answer{0, api.ErrWordOver}
	}
	return answer{8 * int(z.Int64()), api.OK}
}

func TestReckonOfAllPairs(t *testing.T) {
	for op := api.OpAdd; op <= api.OpRem; op++ {
		for _, a := range numbers {
			for _, b := range numbers {
				want := reckonBig(op, a, b)
				if got := of(Reckon(op, must(t, a), must(t, b))); got != want {
					t.Errorf("Reckon(%d, Int(%d), Int(%d)): %v, want %v", op, a, b, got, want)
				}
			}
		}
	}
}

func TestReckonErrorsInOrder(t *testing.T) {
	for _, op := range []int{-1, 5, 9, math.MinInt, math.MaxInt} {
		for _, c := range [][2]int{{0, 0}, {8, 8}, {1, 1}, {8, 0}, {2, 8}, {math.MinInt, -8}} {
			if got := of(Reckon(op, c[0], c[1])); got != (answer{0, api.ErrArg}) {
				t.Errorf("Reckon(%d, %d, %d): %v", op, c[0], c[1], got)
			}
		}
	}
	for op := api.OpAdd; op <= api.OpRem; op++ {
		for tag := 1; tag < 8; tag++ {
			for _, c := range [][2]int{{tag, 8}, {8, tag}, {tag, tag}, {8 + tag, 0}, {0, 8 + tag}, {math.MinInt + tag, -8}, {math.MinInt, -8 + tag}} {
				if got := of(Reckon(op, c[0], c[1])); got != (answer{0, api.ErrWordType}) {
					t.Errorf("Reckon(%d, %d, %d): %v", op, c[0], c[1], got)
				}
			}
		}
	}
	for _, op := range []int{api.OpQuo, api.OpRem} {
		for _, a := range []int{0, 8, -8, math.MinInt, math.MaxInt - 7} {
			if got := of(Reckon(op, a, 0)); got != (answer{0, api.ErrWordZero}) {
				t.Errorf("Reckon(%d, %d, 0): %v", op, a, got)
			}
		}
	}
}

// P1.3

func TestLess(t *testing.T) {
	for _, a := range numbers {
		for _, b := range numbers {
			less, e := Less(must(t, a), must(t, b))
			if less != (a < b) || e != api.OK {
				t.Errorf("Less(Int(%d), Int(%d)): %v, %v", a, b, less, e)
			}
		}
	}
	for tag := 1; tag < 8; tag++ {
		for _, c := range [][2]int{{tag, 80}, {0, 80 + tag}, {tag, 80 + tag}, {-8 + tag, 80}, {-80, -8 + tag}} {
			if less, e := Less(c[0], c[1]); less || e != api.ErrWordType {
				t.Errorf("Less(%d, %d): %v, %v", c[0], c[1], less, e)
			}
		}
	}
}

// P1.4

func TestWordsAreUnlikeAndToldApart(t *testing.T) {
	type origin struct{ tag, value int }
	seen := map[int]origin{}
	add := func(tag, value, w int, e api.Errno) {
		t.Helper()
		if e != api.OK || Tag(w) != tag || Value(w) != value {
			t.Errorf("tag %d, value %d: word %d of tag %d, value %d, %v", tag, value, w, Tag(w), Value(w), e)
		}
		if other, is := seen[w]; is {
			t.Errorf("the word %d is of %v and of tag %d, value %d", w, other, tag, value)
		}
		seen[w] = origin{tag, value}
	}
	for _, n := range numbers {
		w, e := Int(n)
		add(0, n, w, e)
		if n < 0 {
			continue
		}
		w, e = Place(n)
		add(1, n, w, e)
		w, e = Const(n)
		add(2, n, w, e)
		w, e = Symbol(n)
		add(3, n, w, e)
	}
	for _, size := range []int{0, 1, 2, 7, 8, api.MaxSize - 1, api.MaxSize} {
		for kind := range 8 {
			w, e := Head(kind, size)
			add(7, 8*size+kind, w, e)
		}
	}
}

func TestQuotientAndRemainder(t *testing.T) {
	reckon := func(op, a, b int) int {
		t.Helper()
		w, e := Reckon(op, a, b)
		if e != api.OK {
			t.Fatalf("Reckon(%d, %d, %d): %v", op, a, b, e)
		}
		return w
	}
	for _, a := range numbers {
		for _, b := range numbers {
			if b == 0 || a == least && b == -1 {
				continue
			}
			x, y := must(t, a), must(t, b)
			quo, rem := reckon(api.OpQuo, x, y), reckon(api.OpRem, x, y)
			if back := reckon(api.OpAdd, reckon(api.OpMul, quo, y), rem); back != x {
				t.Errorf("%d by %d: they make %d", a, b, Value(back))
			}
			r := Value(rem)
			if max(r, -r) >= max(b, -b) || r != 0 && (r < 0) != (a < 0) {
				t.Errorf("%d by %d: the remainder %d", a, b, r)
			}
		}
	}
}

// P1, R1 and R3

func TestAnyIntsAreAnswered(t *testing.T) {
	for _, a := range anyInts {
		for _, b := range anyInts {
			for op := -1; op <= 5; op++ {
				first := of(Reckon(op, a, b))
				if first.e != api.OK && first.w != 0 {
					t.Errorf("Reckon(%d, %d, %d): %v", op, a, b, first)
				}
				if second := of(Reckon(op, a, b)); second != first {
					t.Errorf("Reckon(%d, %d, %d): %v, then %v", op, a, b, first, second)
				}
			}
			if less, e := Less(a, b); less && e != api.OK {
				t.Errorf("Less(%d, %d): %v, %v", a, b, less, e)
			}
			if got := of(Head(a, b)); got.e != api.OK && got.w != 0 {
				t.Errorf("Head(%d, %d): %v", a, b, got)
			}
		}
	}
}
