package tick

import (
	"math"
	"math/big"
	"testing"

	"remontoir/api"
)

const most = math.MaxUint64

// samples are the numbers around each power of 2, where carries and digits turn over, and some between them.
func samples() []uint64 {
	list := []uint64{0, 42, 130, 1000003, 6148914691236517205, 6148914691236517206, 0x0123456789abcdef, 0xfedcba9876543210, most}
	for shift := range 64 {
		power := uint64(1) << shift
		list = append(list, power-1, power, power+1)
	}
	return list
}

// exact returns the number and true if it is a number of ticks, and 0 and false otherwise.
func exact(n *big.Int) (uint64, bool) {
	if !n.IsUint64() {
		return 0, false
	}
	return n.Uint64(), true
}

// filled has one digit everywhere, and another one in the last place.
func filled(digit, last int) [api.Places]int {
	var digits [api.Places]int
	for place := range digits {
		digits[place] = digit
	}
	digits[api.Places-1] = last
	return digits
}

// P1.1: Sum.
func TestSum(t *testing.T) {
	cases := []struct {
		a, b, want uint64
		ok         bool
	}{
		{0, 0, 0, true},
		{2, 3, 5, true},
		{most, 0, most, true},
		{most - 1, 1, most, true},
		{1 << 63, 1<<63 - 1, most, true},
		{most, 1, 0, false},
		{1 << 63, 1 << 63, 0, false},
		{1 << 63, 1<<63 + 1, 0, false},
		{most, most, 0, false},
	}
	for _, c := range cases {
		for _, pair := range [][2]uint64{{c.a, c.b}, {c.b, c.a}} {
			if got, ok := Sum(pair[0], pair[1]); got != c.want || ok != c.ok {
				t.Errorf("Sum(%d, %d) = %d, %v; want %d, %v", pair[0], pair[1], got, ok, c.want, c.ok)
			}
		}
	}
}

// P1.1: Times.
func TestTimes(t *testing.T) {
	cases := []struct {
		a, b, want uint64
		ok         bool
	}{
		{0, 0, 0, true},
		{0, most, 0, true},
		{6, 7, 42, true},
		{1, most, most, true},
		{3, most / 3, most, true},
		{5, most / 5, most, true},
		{1<<32 - 1, 1<<32 + 1, most, true},
		{2, 1<<63 - 1, most - 1, true},
		{2, 1 << 63, 0, false},
		{3, most/3 + 1, 0, false},
		{1 << 32, 1 << 32, 0, false},
		{1<<32 + 1, 1<<32 + 1, 0, false},
		{most, most, 0, false},
	}
	for _, c := range cases {
		for _, pair := range [][2]uint64{{c.a, c.b}, {c.b, c.a}} {
			if got, ok := Times(pair[0], pair[1]); got != c.want || ok != c.ok {
				t.Errorf("Times(%d, %d) = %d, %v; want %d, %v", pair[0], pair[1], got, ok, c.want, c.ok)
			}
		}
	}
}

// P1.1: Held.
func TestHeld(t *testing.T) {
	cases := []struct{ a, b, want uint64 }{
		{0, 0, 0},
		{2, 3, 5},
		{most, 0, most},
		{most - 2, 1, most - 1},
		{most - 1, 1, most},
		{most, 1, most},
		{1 << 63, 1 << 63, most},
		{1 << 63, 1<<63 + 1, most},
		{most, most, most},
	}
	for _, c := range cases {
		for _, pair := range [][2]uint64{{c.a, c.b}, {c.b, c.a}} {
			if got := Held(pair[0], pair[1]); got != c.want {
				t.Errorf("Held(%d, %d) = %d; want %d", pair[0], pair[1], got, c.want)
			}
		}
	}
}

// P1.1: the same as arithmetic without a bound.
func TestArithmeticIsExact(t *testing.T) {
	for _, a := range samples() {
		for _, b := range samples() {
			bigA, bigB := new(big.Int).SetUint64(a), new(big.Int).SetUint64(b)
			sum, sumOk := exact(new(big.Int).Add(bigA, bigB))
			if got, ok := Sum(a, b); got != sum || ok != sumOk {
				t.Fatalf("Sum(%d, %d) = %d, %v; want %d, %v", a, b, got, ok, sum, sumOk)
			}
			held := sum
			if !sumOk {
				held = most
			}
			if got := Held(a, b); got != held {
				t.Fatalf("Held(%d, %d) = %d; want %d", a, b, got, held)
			}
			product, productOk := exact(new(big.Int).Mul(bigA, bigB))
			if got, ok := Times(a, b); got != product || ok != productOk {
				t.Fatalf("Times(%d, %d) = %d, %v; want %d, %v", a, b, got, ok, product, productOk)
			}
		}
	}
}

// P1.2: Digits, and Of on digits that are those of a number.
func TestDigitsAndOf(t *testing.T) {
	cases := []struct {
		number uint64
		digits [api.Places]int
	}{
		{0, [api.Places]int{}},
		{1, [api.Places]int{1}},
		{63, [api.Places]int{63}},
		{64, [api.Places]int{0, 1}},
		{130, [api.Places]int{2, 2}},
		{4095, [api.Places]int{63, 63}},
		{4096, [api.Places]int{0, 0, 1}},
		{3 + 5*64 + 7*4096 + 9*262144, [api.Places]int{3, 5, 7, 9}},
		{1<<60 - 1, filled(63, 0)},
		{1 << 60, filled(0, 1)},
		{15 << 60, filled(0, 15)},
		{most, filled(63, 15)},
	}
	for _, c := range cases {
		if got := Digits(c.number); got != c.digits {
			t.Errorf("Digits(%d) = %v; want %v", c.number, got, c.digits)
		}
		if got, ok := Of(c.digits); got != c.number || !ok {
			t.Errorf("Of(%v) = %d, %v; want %d, true", c.digits, got, ok, c.number)
		}
	}
}

// P1.2: each digit stands for its own power of 64.
func TestDigitsHaveTheirPlaces(t *testing.T) {
	weight := uint64(1)
	for place := range api.Places {
		greatest := 63
		if place == api.Places-1 {
			greatest = 15
		}
		for digit := 0; digit <= greatest; digit++ {
			var want [api.Places]int
			want[place] = digit
			number := uint64(digit) * weight
			if got := Digits(number); got != want {
				t.Errorf("Digits(%d) = %v; want %v", number, got, want)
			}
			if got, ok := Of(want); got != number || !ok {
				t.Errorf("Of(%v) = %d, %v; want %d, true", want, got, ok, number)
			}
		}
		weight *= 64
	}
}

// P1.2: Of on digits that are those of no number, one of them at each place in turn.
func TestOfRefuses(t *testing.T) {
	for place := range api.Places {
		wrong := []int{-1, -63, -64, 64, 65, 128, 1 << 32, math.MaxInt, math.MinInt}
		if place == api.Places-1 {
			wrong = append(wrong, 16, 17, 31, 32, 48, 63)
		}
		for _, digit := range wrong {
			for _, digits := range [][api.Places]int{{}, {1, 2, 3}, filled(63, 15)} {
				digits[place] = digit
				if got, ok := Of(digits); got != 0 || ok {
					t.Errorf("Of(%v) = %d, %v; want 0, false", digits, got, ok)
				}
			}
		}
	}
}

// P1.2: Top.
func TestTop(t *testing.T) {
	cases := []struct {
		a, b uint64
		want int
	}{
		{0, 0, -1},
		{130, 130, -1},
		{most, most, -1},
		{130, 129, 0},
		{63, 0, 0},
		{64, 63, 1},
		{4096, 4160, 1},
		{4096, 4095, 2},
		{4096, 4097, 0},
		{1<<60 - 1, 0, 9},
		{1 << 60, 1<<60 - 1, 10},
		{15 << 60, 14 << 60, 10},
		{most, most - 1, 0},
		{most, 0, 10},
	}
	for _, c := range cases {
		for _, pair := range [][2]uint64{{c.a, c.b}, {c.b, c.a}} {
			if got := Top(pair[0], pair[1]); got != c.want {
				t.Errorf("Top(%d, %d) = %d; want %d", pair[0], pair[1], got, c.want)
			}
		}
	}
}

// P1.2: Top is the highest index at which the digits differ.
func TestTopComparesDigits(t *testing.T) {
	for _, a := range samples() {
		for _, b := range samples() {
			digitsA, digitsB := Digits(a), Digits(b)
			want := -1
			for place := range api.Places {
				if digitsA[place] != digitsB[place] {
					want = place
				}
			}
			if got := Top(a, b); got != want {
				t.Fatalf("Top(%d, %d) = %d; want %d", a, b, got, want)
			}
		}
	}
}

// P1.3: Of(Digits(x)) is x.
func TestOfTurnsDigitsBack(t *testing.T) {
	for _, x := range samples() {
		if got, ok := Of(Digits(x)); got != x || !ok {
			t.Errorf("Of(Digits(%d)) = %d, %v", x, got, ok)
		}
	}
}

// P1.3: the digits above Top are equal, and the greater number has the greater digit at Top.
func TestTopOrdersNumbers(t *testing.T) {
	for _, a := range samples() {
		for _, b := range samples() {
			top, digitsA, digitsB := Top(a, b), Digits(a), Digits(b)
			for place := top + 1; place < api.Places; place++ {
				if digitsA[place] != digitsB[place] {
					t.Fatalf("%d and %d differ at %d, above Top %d", a, b, place, top)
				}
			}
			if (top < 0) != (a == b) {
				t.Fatalf("Top(%d, %d) = %d", a, b, top)
			}
			if top >= 0 && (a > b) != (digitsA[top] > digitsB[top]) {
				t.Fatalf("%d and %d are not ordered as their digits at %d", a, b, top)
			}
		}
	}
}
