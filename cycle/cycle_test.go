package cycle

import (
	"math"
	"math/big"
	"regexp"
	"strconv"
	"strings"
	"testing"

	"remontoir/api"
	"remontoir/span"
)

const most = math.MaxUint64

// numbersOfRounds are those inside the range and on both sides of it.
var numbersOfRounds = []int{
	math.MinInt, math.MinInt + 1, -1 << 32, -api.MaxRounds, -2, -1, 0, 1, 2, 3, 9, 10, 17, 99, 100, 16383, 16384, 16385, 123456,
	api.MaxRounds - 1, api.MaxRounds, api.MaxRounds + 1, api.MaxRounds + 2, 9999999, 1 << 32, 1<<32 + 1, math.MaxInt - 1, math.MaxInt,
}

// lengths are those inside the range and on both sides of it.
var lengths = []uint64{
	0, 1, 2, 3, 7, 10, 59, 60, 90, 3600, 86399, 86400, 90061, 604800, 604801, 1209600, 1 << 32, 1125899906342400,
	api.MaxSpan - 1, api.MaxSpan, api.MaxSpan + 1, api.MaxSpan + 2, 1 << 51, 1 << 62, 1<<63 - 1, 1 << 63, 1<<63 + 1, most - 1, most,
}

// isValid is what the chapter's terms say.
func isValid(c api.Cycle) bool {
	return 1 <= c.N && c.N <= 1000000 && 1 <= c.Every && c.Every <= 1125899906842624
}

// eachCycle calls do with all pairs of numbers of rounds and lengths.
func eachCycle(do func(c api.Cycle)) {
	for _, n := range numbersOfRounds {
		for _, every := range lengths {
			do(api.Cycle{N: n, Every: every})
		}
	}
}

// invalid are cycles that are out of a range at one end, or at both.
func invalid() []api.Cycle {
	var list []api.Cycle
	eachCycle(func(c api.Cycle) {
		if !isValid(c) {
			list = append(list, c)
		}
	})
	return list
}

// P3.1: Good, at and around the ends of both ranges.
func TestGood(t *testing.T) {
	cases := []struct {
		c    api.Cycle
		good bool
	}{
		{api.Cycle{N: 3, Every: 10}, true},
		{api.Cycle{N: 1, Every: 1}, true},
		{api.Cycle{N: 1, Every: api.MaxSpan}, true},
		{api.Cycle{N: api.MaxRounds, Every: 1}, true},
		{api.Cycle{N: api.MaxRounds, Every: api.MaxSpan}, true},
		{api.Cycle{}, false},
		{api.Cycle{N: 0, Every: 1}, false},
		{api.Cycle{N: 1, Every: 0}, false},
		{api.Cycle{N: -1, Every: 1}, false},
		{api.Cycle{N: api.MaxRounds + 1, Every: 1}, false},
		{api.Cycle{N: 1, Every: api.MaxSpan + 1}, false},
		{api.Cycle{N: math.MinInt, Every: 1}, false},
		{api.Cycle{N: math.MaxInt, Every: 1}, false},
		{api.Cycle{N: 1, Every: most}, false},
		{api.Cycle{N: math.MinInt, Every: most}, false},
	}
	for _, x := range cases {
		if got := Good(x.c); got != x.good {
			t.Errorf("Good(%v) = %v; want %v", x.c, got, x.good)
		}
	}
	eachCycle(func(c api.Cycle) {
		if got := Good(c); got != isValid(c) {
			t.Errorf("Good(%v) = %v; want %v", c, got, isValid(c))
		}
	})
}

// wantParse fails the test unless Parse(s) returns the cycle and the error.
func wantParse(t *testing.T, s string, c api.Cycle, e api.Errno) {
	t.Helper()
	if got, gotE := Parse(s); got != c || gotE != e {
		t.Errorf("Parse(%q) = %v, %d; want %v, %d", s, got, gotE, c, e)
	}
}

// wantErrors fails the test unless Parse returns the zero cycle and the error for each of the texts.
func wantErrors(t *testing.T, e api.Errno, texts ...string) {
	t.Helper()
	for _, s := range texts {
		wantParse(t, s, api.Cycle{}, e)
	}
}

// P3.1: texts that are cycles.
func TestParse(t *testing.T) {
	cycles := map[string]api.Cycle{
		"R3/PT10S":                       {N: 3, Every: 10},
		"R1/PT1S":                        {N: 1, Every: 1},
		"R9/P1DT2H":                      {N: 9, Every: 93600},
		"R10/P2W":                        {N: 10, Every: 1209600},
		"R2/PT90S":                       {N: 2, Every: 90},
		"R2/P0DT0H0M7S":                  {N: 2, Every: 7},
		"R1000000/PT1S":                  {N: api.MaxRounds, Every: 1},
		"R999999/PT1M":                   {N: 999999, Every: 60},
		"R123456/P13031248921DT18H57M4S": {N: 123456, Every: api.MaxSpan},
		"R1000000/PT18764998447377M4S":   {N: api.MaxRounds, Every: api.MaxSpan},
	}
	for s, c := range cycles {
		wantParse(t, s, c, api.OK)
	}
}

// P3.1: a text that does not begin with R.
func TestParseStart(t *testing.T) {
	wantErrors(t, api.ErrForm,
		"", "r3/PT1S", "3/PT1S", "PT1S", "/", "/PT1S", " R3/PT1S", "P3/PT1S", "\xd23/PT1S", "\u211b3/PT1S", "xR/PT1S", "r/PT1S")
}

// P3.1: a slash right behind R is endless, whatever follows it.
func TestParseEndless(t *testing.T) {
	wantErrors(t, api.ErrEndless,
		"R/PT1S", "R/", "R//", "R/PT0S", "R/P1Y", "R/3/PT1S", "R/R3/PT1S", "R/PT999999999999999H", "R/\xff")
}

// P3.1: what stands between R and the slash is no number, or 0, or there is no slash.
func TestParseRounds(t *testing.T) {
	wantErrors(t, api.ErrForm,
		"R0/PT1S", "R00/PT1S", "R01/PT1S", "R0000001/PT1S", "R0000000/PT1S", "R0", "R0/",
		"R", "R3", "RR", "R3PT1S", "RPT1S", "R3-PT1S", "R3\\PT1S", "R9999999", "R1000001", "R1000000",
		"R10000000/PT1S", "R00000001/PT1S", "R99999999/PT1S", "R18446744073709551617/PT1S", "R"+strings.Repeat("9", 100000)+"/PT1S",
		"Rx/PT1S", "Rx", "R-1/PT1S", "R+1/PT1S", "R1x/PT1S", "Rx1/PT1S", "R 3/PT1S", "R3 /PT1S", "R 3", "R ", "R /PT1S", "R1.0/PT1S", "R1,0/PT1S", "R1_0/PT1S", "R0x1/PT1S", "R1e1/PT1S",
		"RR3/PT1S", "R3R/PT1S", "R:/PT1S", "R3:/PT1S", "R\x00/PT1S", "R3\x00/PT1S", "R\xff/PT1S", "R\u0663/PT1S", "R\uff13/PT1S",
		// The faults behind the slash come later.
		"R0/P1Y", "R0/PT0S", "R0/PT999999999999999H", "R01/P1Y", "R10000000/P1Y", "Rx/P1Y", "R9999999x/PT1S")
}

// P3.1: too many rounds come behind the form of the number, and ahead of the duration.
func TestParseOver(t *testing.T) {
	wantErrors(t, api.ErrOver,
		"R1000001/PT1S", "R1000010/PT1S", "R2000000/PT1S", "R9999999/PT1S",
		"R1000001/", "R9999999/P1Y", "R9999999/PT0S", "R9999999/x", "R9999999//", "R9999999/PT1S/PT1S")
}

// P3.1: the error of span.Parse for all of what follows the first slash.
func TestParseDuration(t *testing.T) {
	wantErrors(t, api.ErrForm,
		"R3/", "R3//", "R3/P", "R3/PT", "R3/P1DT", "R3/PT1M1H", "R3/p1d", "R3/10", "R3/R3/PT1S", "R3//PT1S", "R3/PT1S/", "R3/PT1S/PT1S", "R3/PT0S/PT1S", "R3/ PT1S", "R3/PT1S ", "R3/PT01S", "R3/PT-1S", "R3/P1D\x00", "R3/\xff", "R1000000/")
	wantErrors(t, api.ErrCalendar, "R3/P1Y", "R3/P5M", "R3/P0M", "R3/P1Y/", "R1000000/P1Y2M")
	wantErrors(t, api.ErrOver, "R3/PT999999999999999H", "R3/P13031248921DT18H57M5S", "R3/P999999999999999W", "R3/P213503982334602D")
}

// P3.1: a duration of 0.
func TestParseTime(t *testing.T) {
	wantErrors(t, api.ErrTime, "R2/PT0S", "R2/P0W", "R2/P0D", "R2/PT0H", "R2/PT0M", "R1/P0DT0H0M0S", "R1000000/PT0S")
}

var cycleText = regexp.MustCompile(`(?s)^R([1-9][0-9]{0,6})/(.*)\z`)

// slowParse is what P3.1 says, with regular expressions.
func slowParse(s string) (api.Cycle, api.Errno) {
	if len(s) > 1 && s[:2] == "R/" {
		return api.Cycle{}, api.ErrEndless
	}
	groups := cycleText.FindStringSubmatch(s)
	if groups == nil {
		return api.Cycle{}, api.ErrForm
	}
	n, _ := strconv.Atoi(groups[1])
	every, e := span.Parse(groups[2])
	switch {
	case n > 1000000:
		return api.Cycle{}, api.ErrOver
	case e != api.OK:
		return api.Cycle{}, e
	case every == 0:
		return api.Cycle{}, api.ErrTime
	}
	return api.Cycle{N: n, Every: every}, api.OK
}

// P3.1: every text of a few pieces.
func TestParseAll(t *testing.T) {
	pieces := []string{"R", "/", "0", "1", "9", "000000", "999999", "PT1S", "PT0S", "P1Y", "P999999999999999W", "x", " "}
	var follow func(s string, more int)
	follow = func(s string, more int) {
		c, e := slowParse(s)
		wantParse(t, s, c, e)
		if more == 0 {
			return
		}
		for _, piece := range pieces {
			follow(s+piece, more-1)
		}
	}
	follow("", 4)
	follow("R", 4)
	follow("R1", 4)
	follow("R1/", 2)
}

// P3.1: the small numbers of rounds, and those where one more digit, or one more than MaxRounds, is reached.
func TestParseNumbers(t *testing.T) {
	var numbers []int
	for n := range 2000 {
		numbers = append(numbers, n, api.MaxRounds-1000+n, 9998500+n, 99500+n)
	}
	for _, n := range numbers {
		s := "R" + strconv.Itoa(n) + "/PT10S"
		c, e := slowParse(s)
		wantParse(t, s, c, e)
	}
}

// P3.1: every byte at every place of a cycle, in its place and beside it.
func TestParseBytes(t *testing.T) {
	for _, s := range []string{"R12/P3DT4M", "R1000000/PT1S", "R7/P0W"} {
		for place := range len(s) + 1 {
			for b := range 256 {
				for _, after := range []int{place, min(place+1, len(s))} {
					text := s[:place] + string([]byte{byte(b)}) + s[after:]
					c, e := slowParse(text)
					wantParse(t, text, c, e)
				}
			}
		}
	}
}

// P3.1: the texts of cycles.
func TestPrint(t *testing.T) {
	texts := map[api.Cycle]string{
		{N: 3, Every: 10}:                          "R3/PT10S",
		{N: 1, Every: 1}:                           "R1/PT1S",
		{N: 1, Every: 604800}:                      "R1/P1W",
		{N: 7, Every: 60}:                          "R7/PT1M",
		{N: 10, Every: 86400}:                      "R10/P1D",
		{N: 100, Every: 93600}:                     "R100/P1DT2H",
		{N: 999999, Every: 604801}:                 "R999999/P7DT1S",
		{N: api.MaxRounds, Every: 90061}:           "R1000000/P1DT1H1M1S",
		{N: api.MaxRounds, Every: api.MaxSpan}:     "R1000000/P13031248921DT18H57M4S",
		{N: 12, Every: 1125899906342400}:           "R12/P1861606988W",
		{N: api.MaxRounds - 1, Every: api.MaxSpan}: "R999999/P13031248921DT18H57M4S",
	}
	for c, text := range texts {
		if got, ok := Print(c); got != text || !ok {
			t.Errorf("Print(%v) = %q, %v; want %q, true", c, got, ok, text)
		}
	}
}

// P3.1: a cycle that is not valid has no text.
func TestPrintInvalid(t *testing.T) {
	for _, c := range invalid() {
		if got, ok := Print(c); got != "" || ok {
			t.Errorf("Print(%v) = %q, %v; want none", c, got, ok)
		}
	}
}

// P3.1, P3.3: Print formats the duration by span.Print, and Parse returns c for the result.
func TestBack(t *testing.T) {
	eachCycle(func(c api.Cycle) {
		if !isValid(c) {
			return
		}
		text, ok := Print(c)
		duration, _ := span.Print(c.Every)
		if want := "R" + strconv.Itoa(c.N) + "/" + duration; text != want || !ok {
			t.Errorf("Print(%v) = %q, %v; want %q, true", c, text, ok, want)
		}
		wantParse(t, text, c, api.OK)
	})
}

// P3.3: the same for many cycles between the ends of the ranges.
func TestBackBetween(t *testing.T) {
	x := uint64(1)
	for range 50000 {
		x = x*6364136223846793005 + 1442695040888963407
		c := api.Cycle{N: int(x>>40%api.MaxRounds) + 1, Every: x>>14>>(x>>7%50) + 1}
		text, ok := Print(c)
		if !ok {
			t.Fatalf("Print(%v) is not ok", c)
		}
		wantParse(t, text, c, api.OK)
	}
}

// wantWhen fails the test unless When(c, from, k) returns the time and ok.
func wantWhen(t *testing.T, c api.Cycle, from uint64, k int, at uint64, ok bool) {
	t.Helper()
	if got, gotOk := When(c, from, k); got != at || gotOk != ok {
		t.Errorf("When(%v, %d, %d) = %d, %v; want %d, %v", c, from, k, got, gotOk, at, ok)
	}
}

// P3.2: the times of rounds.
func TestWhen(t *testing.T) {
	three, one := api.Cycle{N: 3, Every: 10}, api.Cycle{N: 1, Every: 7}
	wide := api.Cycle{N: api.MaxRounds, Every: api.MaxSpan}
	cases := []struct {
		c    api.Cycle
		from uint64
		k    int
		at   uint64
		ok   bool
	}{
		{three, 5, 1, 15, true},
		{three, 5, 2, 25, true},
		{three, 5, 3, 35, true},
		{three, 0, 1, 10, true},
		{three, 5, 0, 0, false},
		{three, 5, 4, 0, false},
		{three, 5, -1, 0, false},
		{three, 5, math.MinInt, 0, false},
		{three, 5, math.MaxInt, 0, false},
		{three, 5, 1<<32 + 1, 0, false},
		{one, 3, 1, 10, true},
		{one, 3, 2, 0, false},
		{three, most - 10, 1, most, true},
		{three, most - 9, 1, 0, false},
		{three, most - 20, 2, most, true},
		{three, most - 19, 2, 0, false},
		{three, most - 30, 3, most, true},
		{three, most - 29, 3, 0, false},
		{three, most - 29, 2, most - 9, true},
		{three, most, 1, 0, false},
		// Products around 2^64, and one that comes back to a small number if it wraps round.
		{wide, 0, 16383, 16383 << 50, true},
		{wide, 0, 16384, 0, false},
		{wide, 7, 16384, 0, false},
		{wide, 0, 16385, 0, false},
		{wide, 0, api.MaxRounds, 0, false},
		{wide, 1<<50 - 1, 16383, most, true},
		{wide, 1 << 50, 16383, 0, false},
		{wide, 1, api.MaxRounds + 1, 0, false},
		{api.Cycle{N: api.MaxRounds, Every: 1}, 41, api.MaxRounds, api.MaxRounds + 41, true},
	}
	for _, x := range cases {
		wantWhen(t, x.c, x.from, x.k, x.at, x.ok)
	}
}

// P3.2: a cycle that is not valid has no rounds.
func TestWhenAndPastInvalid(t *testing.T) {
	for _, c := range invalid() {
		for _, k := range []int{-1, 0, 1, 2, c.N - 1, c.N} {
			wantWhen(t, c, 0, k, 0, false)
			wantWhen(t, c, 5, k, 0, false)
			wantWhen(t, c, most, k, 0, false)
		}
		for _, from := range []uint64{0, 5, most} {
			for _, now := range []uint64{0, 5, 15, most} {
				wantPast(t, c, from, now, 0)
			}
		}
	}
}

// slowTime is the exact time of round k.
func slowTime(c api.Cycle, from uint64, k int) *big.Int {
	after := new(big.Int).Mul(big.NewInt(int64(k)), new(big.Int).SetUint64(c.Every))
	return after.Add(after, new(big.Int).SetUint64(from))
}

// P3.2: When is the same as arithmetic without a bound.
func TestWhenIsExact(t *testing.T) {
	eachCycle(func(c api.Cycle) {
		for _, k := range numbersOfRounds {
			for _, from := range lengths {
				want, ok := uint64(0), false
				if at := slowTime(c, from, k); isValid(c) && 1 <= k && k <= c.N && at.IsUint64() {
					want, ok = at.Uint64(), true
				}
				wantWhen(t, c, from, k, want, ok)
			}
		}
	})
}

// wantPast fails the test unless Past(c, from, now) returns n.
func wantPast(t *testing.T, c api.Cycle, from, now uint64, n int) {
	t.Helper()
	if got := Past(c, from, now); got != n {
		t.Errorf("Past(%v, %d, %d) = %d; want %d", c, from, now, got, n)
	}
}

// P3.2: how many rounds are past.
func TestPast(t *testing.T) {
	three, all := api.Cycle{N: 3, Every: 10}, api.Cycle{N: api.MaxRounds, Every: 1}
	wide := api.Cycle{N: api.MaxRounds, Every: api.MaxSpan}
	cases := []struct {
		c         api.Cycle
		from, now uint64
		n         int
	}{
		{three, 5, 0, 0},
		{three, 5, 4, 0},
		{three, 5, 5, 0},
		{three, 5, 14, 0},
		{three, 5, 15, 1},
		{three, 5, 24, 1},
		{three, 5, 25, 2},
		{three, 5, 34, 2},
		{three, 5, 35, 3},
		{three, 5, 45, 3},
		{three, 5, most, 3},
		{three, most, 0, 0},
		{three, most, most - 1, 0},
		{three, most, most, 0},
		// Rounds beyond the greatest number of ticks are never past.
		{three, most - 9, most, 0},
		{three, most - 10, most, 1},
		{three, most - 15, most, 1},
		{three, most - 15, most - 6, 0},
		{three, most - 29, most, 2},
		{all, 0, 999999, 999999},
		{all, 0, api.MaxRounds, api.MaxRounds},
		{all, 0, api.MaxRounds + 1, api.MaxRounds},
		{all, 0, most, api.MaxRounds},
		{all, 0, 1 << 63, api.MaxRounds},
		{all, 1, 0, 0},
		{wide, 0, most, 16383},
		{wide, 1<<50 - 1, most, 16383},
		{wide, 1 << 50, most, 16382},
		{wide, 0, api.MaxSpan - 1, 0},
		{wide, 0, api.MaxSpan, 1},
	}
	for _, x := range cases {
		wantPast(t, x.c, x.from, x.now, x.n)
	}
}

// P3.2: Past counts the rounds whose exact time is at most now.
func TestPastCounts(t *testing.T) {
	starts := []uint64{0, 1, 7, 30, 1 << 62, most - 41, most - 40, most - 7, most - 1, most}
	for n := 1; n <= 6; n++ {
		for every := uint64(1); every <= 9; every++ {
			c := api.Cycle{N: n, Every: every}
			for _, from := range starts {
				for distance := range uint64(60) {
					for _, now := range []uint64{from + distance, from - distance} {
						wantPast(t, c, from, now, slowPast(c, from, now))
					}
				}
			}
		}
	}
}

// slowPast counts round by round.
func slowPast(c api.Cycle, from, now uint64) int {
	count := 0
	for k := 1; k <= c.N; k++ {
		if slowTime(c, from, k).Cmp(new(big.Int).SetUint64(now)) <= 0 {
			count++
		}
	}
	return count
}

// P3.2: around the time of each round that is a number of ticks, Past counts it from this time on.
func TestPastTurnsAtWhen(t *testing.T) {
	eachCycle(func(c api.Cycle) {
		for _, k := range numbersOfRounds {
			for _, from := range lengths {
				at, ok := When(c, from, k)
				if !ok {
					continue
				}
				wantPast(t, c, from, at, k)
				wantPast(t, c, from, at-1, k-1)
			}
		}
	})
}
