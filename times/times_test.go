package times_test

import (
	"math"
	"math/big"
	"slices"
	"testing"

	"verge/api"
	"verge/times"
)

const (
	levels = 11
	top    = uint64(math.MaxUint64)
)

// wrongLevels are levels that no time has a digit of.
var wrongLevels = []int{-1, -2, -64, math.MinInt, 11, 12, 64, 1 << 32, math.MaxInt}

// samples are the times at which digits change: 0, the end, and what lies round each bit.
func samples() []uint64 {
	l := []uint64{0, top, top - 1, 12345678901234567890, 0xAAAAAAAAAAAAAAAA, 0x5555555555555555}
	for i := range 64 {
		l = append(l, 1<<i-1, 1<<i, 1<<i+1, top<<i)
	}
	return l
}

// byDivision are the digits in another way than by shifts.
func byDivision(t uint64) []int {
	var l []int
	for range levels {
		l = append(l, int(t%64))
		t /= 64
	}
	return l
}

// P1.1

func TestDigit(t *testing.T) {
	for _, q := range []struct {
		t     uint64
		level int
		want  int
	}{
		{65, 0, 1}, {65, 1, 1}, {65, 2, 0},
		{0, 0, 0}, {0, 10, 0},
		{63, 0, 63}, {64, 0, 0}, {64, 1, 1},
		{5*64*64 + 9*64 + 7, 0, 7}, {5*64*64 + 9*64 + 7, 1, 9}, {5*64*64 + 9*64 + 7, 2, 5}, {5*64*64 + 9*64 + 7, 3, 0},
		{top, 0, 63}, {top, 9, 63}, {top, 10, 15},
		{1 << 60, 10, 1}, {1<<60 - 1, 10, 0}, {1 << 63, 10, 8},
	} {
		if got := times.Digit(q.t, q.level); got != q.want {
			t.Errorf("Digit(%d, %d): %d, want %d", q.t, q.level, got, q.want)
		}
	}
}

func TestDigitOfAnotherLevel(t *testing.T) {
	for _, n := range samples() {
		for _, level := range wrongLevels {
			if got := times.Digit(n, level); got != 0 {
				t.Errorf("Digit(%d, %d): %d, want 0", n, level, got)
			}
		}
	}
}

func TestDigits(t *testing.T) {
	for _, n := range samples() {
		got, want := times.Digits(n), byDivision(n)
		if !slices.Equal(got, want) {
			t.Errorf("Digits(%d): %v, want %v", n, got, want)
		}
		for level := range levels {
			if d := times.Digit(n, level); d != want[level] {
				t.Errorf("Digit(%d, %d): %d, want %d", n, level, d, want[level])
			}
		}
	}
}

func TestDigitsOfTheEnds(t *testing.T) {
	if got := times.Digits(0); !slices.Equal(got, make([]int, 11)) {
		t.Errorf("Digits(0): %v", got)
	}
	want := []int{63, 63, 63, 63, 63, 63, 63, 63, 63, 63, 15}
	if got := times.Digits(top); !slices.Equal(got, want) {
		t.Errorf("Digits(2^64 - 1): %v, want %v", got, want)
	}
}

func TestDigitsAreNewMemory(t *testing.T) {
	first := times.Digits(65)
	clear(first[:cap(first)])
	if got := times.Digits(65); !slices.Equal(got, byDivision(65)) {
		t.Errorf("Digits(65) behind a change of an earlier answer: %v", got)
	}
}

// P1.2

func TestApart(t *testing.T) {
	for _, q := range []struct {
		a, b uint64
		want int
	}{
		{63, 64, 1}, {0, 0, -1}, {7, 7, -1}, {top, top, -1},
		{0, 1, 0}, {62, 63, 0}, {0, 64, 1}, {64, 65, 0},
		{4095, 4096, 2}, {64*64 + 1, 64*64 + 2, 0},
		{0, 1 << 59, 9}, {0, 1 << 60, 10}, {0, 1 << 63, 10}, {0, top, 10},
		{top, top - 1, 0}, {top, top - 64, 1}, {top, 1<<60 - 1, 10},
	} {
		if got := times.Apart(q.a, q.b); got != q.want {
			t.Errorf("Apart(%d, %d): %d, want %d", q.a, q.b, got, q.want)
		}
		if got := times.Apart(q.b, q.a); got != q.want {
			t.Errorf("Apart(%d, %d): %d, want %d", q.b, q.a, got, q.want)
		}
	}
}

func TestApartByDigits(t *testing.T) {
	for _, a := range samples() {
		for _, b := range samples() {
			want := -1
			x, y := byDivision(a), byDivision(b)
			for level := levels - 1; level >= 0 && want < 0; level-- {
				if x[level] != y[level] {
					want = level
				}
			}
			if got := times.Apart(a, b); got != want {
				t.Errorf("Apart(%d, %d): %d, want %d", a, b, got, want)
			}
		}
	}
}

func TestZeros(t *testing.T) {
	for _, q := range []struct {
		t    uint64
		want int
	}{
		{4096, 2}, {0, 11}, {1, 0}, {63, 0}, {64, 1}, {65, 0}, {4095, 0},
		{4096 + 64, 1}, {1 << 59, 9}, {1 << 60, 10}, {1 << 63, 10}, {15 << 60, 10},
		{1<<60 + 1, 0}, {top, 0},
	} {
		if got := times.Zeros(q.t); got != q.want {
			t.Errorf("Zeros(%d): %d, want %d", q.t, got, q.want)
		}
	}
}

func TestZerosByDigits(t *testing.T) {
	for _, n := range samples() {
		want := slices.IndexFunc(byDivision(n), func(d int) bool { return d != 0 })
		if want < 0 {
			want = levels
		}
		if got := times.Zeros(n); got != want {
			t.Errorf("Zeros(%d): %d, want %d", n, got, want)
		}
	}
}

func TestCut(t *testing.T) {
	for _, q := range []struct {
		t     uint64
		level int
		want  uint64
	}{
		{100, 0, 100}, {100, 1, 64}, {100, 2, 0},
		{4096 + 65, 1, 4096 + 64}, {4096 + 65, 2, 4096}, {4096 + 65, 3, 0},
		{0, 0, 0}, {0, 5, 0},
		{top, 0, top}, {top, 1, top - 63}, {top, 9, top - (1<<54 - 1)}, {top, 10, 15 << 60},
		{1<<60 - 1, 10, 0},
	} {
		if got := times.Cut(q.t, q.level); got != q.want {
			t.Errorf("Cut(%d, %d): %d, want %d", q.t, q.level, got, q.want)
		}
	}
}

func TestCutByDigits(t *testing.T) {
	for _, n := range samples() {
		for level := range levels {
			want := byDivision(n)
			clear(want[:level])
			if got := times.Cut(n, level); !slices.Equal(byDivision(got), want) {
				t.Errorf("Cut(%d, %d): %d, want the digits %v", n, level, got, want)
			}
		}
	}
}

func TestCutAtAnotherLevel(t *testing.T) {
	for _, n := range samples() {
		for _, level := range wrongLevels {
			want := n
			if level > 10 {
				want = 0
			}
			if got := times.Cut(n, level); got != want {
				t.Errorf("Cut(%d, %d): %d, want %d", n, level, got, want)
			}
		}
	}
}

// P1.3

func TestAdd(t *testing.T) {
	for _, q := range []struct {
		a, b, want uint64
		err        api.Errno
	}{
		{0, 0, 0, api.OK}, {3, 4, 7, api.OK},
		{top, 0, top, api.OK}, {0, top, top, api.OK}, {top - 1, 1, top, api.OK},
		{1<<63 - 1, 1 << 63, top, api.OK},
		{top, 1, 0, api.ErrOver}, {1, top, 0, api.ErrOver},
		{1 << 63, 1 << 63, 0, api.ErrOver}, {1<<63 + 1, 1 << 63, 0, api.ErrOver},
		{top, top, 0, api.ErrOver}, {top, 5, 0, api.ErrOver},
	} {
		got, err := times.Add(q.a, q.b)
		if got != q.want || err != q.err {
			t.Errorf("Add(%d, %d): %d, %d, want %d, %d", q.a, q.b, got, err, q.want, q.err)
		}
	}
}

func TestAddAgainstGreatNumbers(t *testing.T) {
	for _, a := range samples() {
		for _, b := range samples() {
			sum := new(big.Int).Add(new(big.Int).SetUint64(a), new(big.Int).SetUint64(b))
			want, wantErr := uint64(0), api.ErrOver
			if sum.IsUint64() {
				want, wantErr = sum.Uint64(), api.OK
			}
			if got, err := times.Add(a, b); got != want || err != wantErr {
				t.Errorf("Add(%d, %d): %d, %d, want %d, %d", a, b, got, err, want, wantErr)
			}
		}
	}
}

func TestLater(t *testing.T) {
	for _, q := range []struct {
		d, now, want uint64
		err          api.Errno
	}{
		{3, 7, 8, api.OK}, {9, 3, 9, api.OK},
		{0, 0, 1, api.OK}, {1, 0, 1, api.OK}, {2, 0, 2, api.OK},
		{4, 4, 5, api.OK}, {5, 4, 5, api.OK}, {6, 4, 6, api.OK},
		{0, top - 1, top, api.OK}, {top, top - 1, top, api.OK}, {top, 0, top, api.OK},
		{0, top, 0, api.ErrOver}, {7, top, 0, api.ErrOver}, {top, top, 0, api.ErrOver},
	} {
		got, err := times.Later(q.d, q.now)
		if got != q.want || err != q.err {
			t.Errorf("Later(%d, %d): %d, %d, want %d, %d", q.d, q.now, got, err, q.want, q.err)
		}
	}
}

func TestLaterLiesAhead(t *testing.T) {
	for _, d := range samples() {
		for _, now := range samples() {
			if now == top {
				continue
			}
			got, err := times.Later(d, now)
			if err != api.OK || got <= now || got < d || got != d && got != now+1 {
				t.Errorf("Later(%d, %d): %d, %d", d, now, got, err)
			}
		}
	}
}

// P1.4

func TestAlikeFromALevelOnIsApartBelowIt(t *testing.T) {
	for _, a := range samples() {
		for _, b := range samples() {
			for level := range levels + 1 {
				alike := times.Cut(a, level) == times.Cut(b, level)
				below := times.Apart(a, b) < level
				if alike != below {
					t.Errorf("%d and %d at the level %d: alike from there on %t, apart below it %t", a, b, level, alike, below)
				}
			}
		}
	}
}
