package span

import (
	"math"
	"math/big"
	"regexp"
	"strconv"
	"strings"
	"testing"

	"remontoir/api"
)

// wantParse fails the test unless Parse(s) returns the length and the error.
func wantParse(t *testing.T, s string, length uint64, e api.Errno) {
	t.Helper()
	if got, gotE := Parse(s); got != length || gotE != e {
		t.Errorf("Parse(%q) = %d, %d; want %d, %d", s, got, gotE, length, e)
	}
}

// wantErrors fails the test unless Parse returns 0 and the error for each of the texts.
func wantErrors(t *testing.T, e api.Errno, texts ...string) {
	t.Helper()
	for _, s := range texts {
		wantParse(t, s, 0, e)
	}
}

// P2.1: the lengths of durations.
func TestParse(t *testing.T) {
	lengths := map[string]uint64{
		"P1DT2H":               93600,
		"PT5M":                 300,
		"PT0S":                 0,
		"P0D":                  0,
		"P0W":                  0,
		"P0DT0H0M0S":           0,
		"P1W":                  604800,
		"P1D":                  86400,
		"PT1H":                 3600,
		"PT1M":                 60,
		"PT1S":                 1,
		"PT2H3M":               7380,
		"PT2H3S":               7203,
		"PT2M3S":               123,
		"PT2H3M4S":             7384,
		"P2DT3M":               172980,
		"P2DT3S":               172803,
		"P2DT3H4M":             183840,
		"P2DT3H4S":             183604,
		"P2DT3M4S":             172984,
		"P2DT3H4M5S":           183845,
		"P7D":                  604800,
		"PT24H":                86400,
		"PT60M":                3600,
		"PT100S":               100,
		"P10DT100H1000M10000S": 1294000,
		"P0DT1S":               1,
		"PT0H1M":               60,
		"PT1234567890S":        1234567890,
	}
	for s, length := range lengths {
		wantParse(t, s, length, api.OK)
	}
}

// P2.1: a number has at most 15 digits, and the greatest of them count in full.
func TestParseDigits(t *testing.T) {
	wantParse(t, "PT999999999999999S", 999999999999999, api.OK)
	wantParse(t, "PT100000000000000S", 100000000000000, api.OK)
	wantErrors(t, api.ErrForm,
		"P1000000000000000W", "P1000000000000000D", "PT1000000000000000H", "PT1000000000000000M", "PT1000000000000000S",
		"P1DT1H1M1000000000000000S", "P1000000000000000Y", "P1000000000000000M",
		"P0000000000000001D", "P18446744073709551617D", "PT"+strings.Repeat("9", 100000)+"S",
		"P01W", "P00D", "PT00S", "PT01H", "PT1H01M", "PT1M01S", "P01Y", "P00M")
}

// P2.1: ErrCalendar comes ahead of the other errors.
func TestParseCalendar(t *testing.T) {
	wantErrors(t, api.ErrCalendar,
		"P5M", "P1Y", "P0Y", "P0M", "P1Y2M3DT4H", "P12M3D", "P1YT1S", "P1M1M", "P1Y ", "P1M\xff", "P1Y-1D", "P3Mx", "P9YPT",
		"P999999999999999Y", "P999999999999999M999999999999999W")
}

// P2.1: years and months that are not at the start are of the wrong form.
func TestParseCalendarElsewhere(t *testing.T) {
	wantErrors(t, api.ErrForm,
		"PT1Y", "PT1H1Y", "P1D1Y", "P1D1M", "P1W1M", "P1W1Y", "P1DT1Y", "PY", "PM", "P-1Y", "P 1Y", "1Y", "p1Y", "P1y", "P1m", "T1M", "PP1Y", "P1.5Y")
}

// P2.1: texts that are not durations.
func TestParseForm(t *testing.T) {
	wantErrors(t, api.ErrForm,
		"P", "PT", "P1DT", "PT1M1H", "P1W1D", "p1d",
		"", "T", "D", "1", "1D", "T1S", "P1", "PT1", "P1DT1", "P0", "PD", "PW", "PTS", "PTH", "PTM", "P1DTS",
		"PT1HM", "PT1H1", "PT1M1", "PT1H1M1", "PT1HS",
		"P1H", "P1S", "PT1D", "PT1W", "P1DT1D", "P1DT1W", "PT1H1W", "PT1H1D", "PT1M1D", "PT1M1W",
		"P1D1D", "P1W1W", "PT1H1H", "PT1M1M", "PT1S1S", "PT1S1M", "PT1S1H", "PT1H1S1M", "PT1M1S1H", "PT1M1S1M",
		"P1WT1S", "P1WT", "P1D1W", "PT1ST", "PTT1S", "P1DTT1S", "PT1HT1M", "P1T1S", "P1D1H", "P1D1S", "P1DP1D", "P1DPT1S", "PP1D",
		"P1d", "P1w", "Pt1S", "PT1s", "PT1h", "PT1m",
		" P1D", "P1D ", "P 1D", "P1 D", "P1D T1S", "PT 1S", "PT1S\n", "P1D\x00", "P1\x00", "P\x00D", "P\xff", "\xff", "P1\xff",
		"P-1D", "P+1D", "P1.5D", "P1,5D", "P1_0D", "P0x1D", "P1e1D", "PT-1S", "PT+1S",
		"P\u0661D", "P\uff11D", "P1\u0414", "\u0420"+"1D")
}

// P2.1: lengths around MaxSpan, and those that are no numbers of ticks.
func TestParseOver(t *testing.T) {
	wantParse(t, "P1861606988W", 1125899906342400, api.OK)
	wantParse(t, "P13031248921DT18H57M4S", api.MaxSpan, api.OK)
	wantParse(t, "P13031248921DT18H57M3S", api.MaxSpan-1, api.OK)
	wantParse(t, "PT312749974122H57M4S", api.MaxSpan, api.OK)
	wantParse(t, "PT18764998447377M4S", api.MaxSpan, api.OK)
	wantErrors(t, api.ErrOver,
		"P13031248921DT18H57M5S", "PT312749974122H57M5S", "PT18764998447377M5S",
		"P1861606989W", "P13031248922D", "PT312749974123H", "PT18764998447378M",
		"P999999999999999W", "P999999999999999D", "PT999999999999999H", "PT999999999999999M", "P999999999999999DT0S",
		// Sums and products that come back below MaxSpan if they wrap round at 2^64.
		"P30500568904944W", "P213503982334602D", "P213503982334601DT7H16M", "P213503982334601DT999999999999999S",
		"P171131297149417DT999999999999999H999999999999999M999999999999999S",
		"PT999999999999999H999999999999999M999999999999999S")
}

// P2.1: ErrForm comes ahead of ErrOver.
func TestParseFormAheadOfOver(t *testing.T) {
	wantErrors(t, api.ErrForm,
		"P999999999999999W1D", "P999999999999999DT", "P999999999999999DT1", "P999999999999999DT1W", "PT999999999999999H1", "PT999999999999999M ", "P999999999999999D1M")
}

var (
	yearsOrMonths = regexp.MustCompile(`^P(0|[1-9][0-9]{0,14})[YM]`)
	duration      = regexp.MustCompile(`^P(?:(\d+)W|(?:(\d+)D)?(T(?:(\d+)H)?(?:(\d+)M)?(?:(\d+)S)?)?)\z`)
	number        = regexp.MustCompile(`^(0|[1-9][0-9]{0,14})\z`)
)

// slowParse is what P2.1 says, with regular expressions and unbounded arithmetic.
func slowParse(s string) (uint64, api.Errno) {
	if yearsOrMonths.MatchString(s) {
		return 0, api.ErrCalendar
	}
	groups := duration.FindStringSubmatch(s)
	if groups == nil || groups[3] == "T" || s == "P" {
		return 0, api.ErrForm
	}
	length := new(big.Int)
	for group, ticks := range map[int]int64{1: 604800, 2: 86400, 4: 3600, 5: 60, 6: 1} {
		if groups[group] == "" {
			continue
		}
		if !number.MatchString(groups[group]) {
			return 0, api.ErrForm
		}
		n, _ := new(big.Int).SetString(groups[group], 10)
		length.Add(length, n.Mul(n, big.NewInt(ticks)))
	}
	if length.Cmp(big.NewInt(api.MaxSpan)) > 0 {
		return 0, api.ErrOver
	}
	return length.Uint64(), api.OK
}

// P2.1: every text of up to six pieces.
func TestParseAll(t *testing.T) {
	pieces := []string{"P", "T", "0", "1", "999999999999999", "Y", "M", "W", "D", "H", "S"}
	var try func(s string, more int)
	try = func(s string, more int) {
		length, e := slowParse(s)
		wantParse(t, s, length, e)
		if more == 0 {
			return
		}
		for _, piece := range pieces {
			try(s+piece, more-1)
		}
	}
	try("", 3)
	try("P", 5)
	try("P1D", 4)
	try("PT", 4)
	try("PT1H", 3)
	try("PT1H1", 3)
}

// P2.1: every byte at every place of a duration, in its place and beside it.
func TestParseBytes(t *testing.T) {
	for _, s := range []string{"P12DT3H40M5S", "P6W", "PT0S"} {
		for place := range len(s) + 1 {
			for b := range 256 {
				for _, after := range []int{place, min(place+1, len(s))} {
					text := s[:place] + string([]byte{byte(b)}) + s[after:]
					length, e := slowParse(text)
					wantParse(t, text, length, e)
				}
			}
		}
	}
}

// wantPrint fails the test unless Print(x) returns the text and ok.
func wantPrint(t *testing.T, x uint64, text string, ok bool) {
	t.Helper()
	if got, gotOk := Print(x); got != text || gotOk != ok {
		t.Errorf("Print(%d) = %q, %v; want %q, %v", x, got, gotOk, text, ok)
	}
}

// P2.2: the durations of lengths.
func TestPrint(t *testing.T) {
	texts := map[uint64]string{
		0:                "PT0S",
		90061:            "P1DT1H1M1S",
		1:                "PT1S",
		59:               "PT59S",
		60:               "PT1M",
		61:               "PT1M1S",
		3599:             "PT59M59S",
		3600:             "PT1H",
		3601:             "PT1H1S",
		3660:             "PT1H1M",
		3661:             "PT1H1M1S",
		86399:            "PT23H59M59S",
		86400:            "P1D",
		86401:            "P1DT1S",
		86460:            "P1DT1M",
		90000:            "P1DT1H",
		93600:            "P1DT2H",
		604799:           "P6DT23H59M59S",
		604800:           "P1W",
		604801:           "P7DT1S",
		691200:           "P8D",
		1209600:          "P2W",
		6048000:          "P10W",
		6051600:          "P70DT1H",
		1125899906342400: "P1861606988W",
		api.MaxSpan - 1:  "P13031248921DT18H57M3S",
		api.MaxSpan:      "P13031248921DT18H57M4S",
	}
	for x, text := range texts {
		wantPrint(t, x, text, true)
	}
}

// P2.2: there is no duration beyond MaxSpan.
func TestPrintOver(t *testing.T) {
	for _, x := range []uint64{api.MaxSpan + 1, 1125899906947200, 1 << 51, 1 << 63, math.MaxUint64 - 1, math.MaxUint64} {
		wantPrint(t, x, "", false)
	}
}

// slowPrint is what P2.2 says of a length up to MaxSpan, unit by unit.
func slowPrint(x uint64) string {
	if x > 0 && x%604800 == 0 {
		return "P" + strconv.FormatUint(x/604800, 10) + "W"
	}
	text, t := "P", "T"
	for _, unit := range []struct {
		letter string
		ticks  uint64
	}{{"D", 86400}, {"H", 3600}, {"M", 60}, {"S", 1}} {
		n := x / unit.ticks
		x -= n * unit.ticks
		if n == 0 && !(unit.letter == "S" && text == "P") {
			continue
		}
		if unit.letter != "D" {
			text += t
			t = ""
		}
		text += strconv.FormatUint(n, 10) + unit.letter
	}
	return text
}

// samples are lengths from 0 to MaxSpan: those around the turns of all units, around the powers of 2, and some between them.
func samples() []uint64 {
	var list []uint64
	for x := range uint64(8000) {
		list = append(list, x, x*60, x*3600, x*3600+1, x*86400, x*86400+3599, x*604800, x*604800+3600, api.MaxSpan-x)
	}
	for shift := range 51 {
		power := uint64(1) << shift
		list = append(list, power-1, power, min(power+1, api.MaxSpan))
	}
	x := uint64(1)
	for range 20000 {
		x = x*6364136223846793005 + 1442695040888963407
		list = append(list, x>>14, x>>24, x>>34, x>>40)
	}
	return list
}

// P2.2, P2.3: the duration of a length is as the chapter says, and has this length.
func TestPrintAndParse(t *testing.T) {
	for _, x := range samples() {
		text := slowPrint(x)
		wantPrint(t, x, text, true)
		wantParse(t, text, x, api.OK)
	}
}

// P2.3: Parse returns x for the result of Print(x).
func TestBack(t *testing.T) {
	for _, x := range samples() {
		text, _ := Print(x)
		wantParse(t, text, x, api.OK)
	}
}
