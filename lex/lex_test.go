package lex

import (
	"cmp"
	"maps"
	"math"
	"math/big"
	"math/rand"
	"regexp"
	"slices"
	"strconv"
	"strings"
	"testing"

	"remontoir/api"
)

// num is a sign for a number.
func num(n int) api.Sign { return api.Sign{Kind: api.Number, N: n} }

// name is a sign for a variable, by its letter.
func name(letter byte) api.Sign { return api.Sign{Kind: api.Name, N: int(letter) - 'a'} }

// of are signs of the kinds that are written in one way.
func of(kinds ...int) []api.Sign {
	var l []api.Sign
	for _, kind := range kinds {
		l = append(l, api.Sign{Kind: kind})
	}
	return l
}

// written are the kinds of signs that have one written form, with their numbers as package api gives them.
var written = map[int]string{
	3: "+", 4: "-", 5: "*", 6: "<", 7: "<=", 8: ">", 9: ">=", 10: "==", 11: "!=", 12: "&", 13: "|", 14: "!", 15: "(", 16: ")", 17: "[", 18: "]",
}

// numbers are valid ones, with the digits 0 and 9 at each place and the edges among them.
var numbers = []int{0, 1, 2, 7, 9, 10, 11, 19, 90, 99, 100, 101, 909, 1000, 65535, 65536, 999999999, 1000000000, 1999999999, 2000000000, 2147483639, 2147483640, 2147483646, 2147483647}

// notNumbers are beyond the range of a number on either side. Some of them are within it if only their lowest 8, 31 or 32 bits are read.
var notNumbers = []int{math.MinInt, math.MinInt + 1, -1 << 32, -1<<32 + 5, -1 << 31, -256, -2, -1, 1 << 31, 1<<31 + 5, 1 << 32, 1<<32 + 5, 1 << 62, math.MaxInt - 1, math.MaxInt}

// notNames are no numbers of variables. Some of them are one if only their lowest 5, 8 or 32 bits are read.
var notNames = []int{math.MinInt, -1 << 32, -256, -26, -2, -1, 26, 27, 31, 32, 64, 97, 122, 256, 257, 1 << 32, 1<<32 + 1, math.MaxInt}

// notKinds are numbers that are no kind of a sign that is written. Some of them are one if only their lowest 5, 8 or 32 bits are read.
var notKinds = []int{math.MinInt, -1 << 32, -1<<32 + 3, -256, -18, -3, -2, -1, 0, api.Neg, 20, 21, 32, 33, 35, 64, 256, 257, 259, 1 << 32, 1<<32 + 1, 1<<32 + 2, 1<<32 + 3, math.MaxInt - 1, math.MaxInt}

// texts are the written forms of printable signs: all marks, all names and some numbers.
func texts() map[api.Sign]string {
	m := map[api.Sign]string{}
	for kind, text := range written {
		m[api.Sign{Kind: kind}] = text
	}
	for index, letter := range strings.Split("abcdefghijklmnopqrstuvwxyz", "") {
		m[api.Sign{Kind: api.Name, N: index}] = letter
	}
	for _, n := range numbers {
		m[num(n)] = strconv.Itoa(n)
	}
	return m
}

// unprintable lists signs that have no written form.
func unprintable() []api.Sign {
	var l []api.Sign
	for _, kind := range notKinds {
		l = append(l, api.Sign{Kind: kind}, api.Sign{Kind: kind, N: 1}, api.Sign{Kind: kind, N: -1}, api.Sign{Kind: kind, N: kind})
	}
	for _, n := range notNumbers {
		l = append(l, num(n))
	}
	for _, n := range notNames {
		l = append(l, api.Sign{Kind: api.Name, N: n})
	}
	for kind := range written {
		for _, n := range append([]int{1, 2, 25, api.MaxNumber}, append(notNames, notNumbers...)...) {
			l = append(l, api.Sign{Kind: kind, N: n})
		}
	}
	return l
}

// wantLex fails the test unless Lex(s) returns the signs and the error.
func wantLex(t *testing.T, s string, want []api.Sign, e api.Errno) {
	t.Helper()
	if got, gotE := Lex(s); !slices.Equal(got, want) || gotE != e {
		t.Fatalf("Lex(%q) = %v, %d; want %v, %d", s, got, gotE, want, e)
	}
}

// wantErrors fails the test unless Lex returns no signs and the error for each of the texts.
func wantErrors(t *testing.T, e api.Errno, texts ...string) {
	t.Helper()
	for _, s := range texts {
		wantLex(t, s, nil, e)
	}
}

// wantPrint fails the test unless Print(l...) returns the text and ok.
func wantPrint(t *testing.T, l []api.Sign, text string, ok bool) {
	t.Helper()
	if got, gotOk := Print(l...); got != text || gotOk != ok {
		t.Fatalf("Print(%v) = %q, %v; want %q, %v", l, got, gotOk, text, ok)
	}
}

// P13.1, P13.2: the signs that are printable, their written forms, and that each of these alone is read as its sign.
func TestPrintable(t *testing.T) {
	for s, want := range texts() {
		if !Good(s) {
			t.Errorf("Good(%v) = false", s)
		}
		if text, ok := Text(s); text != want || !ok {
			t.Errorf("Text(%v) = %q, %v; want %q, true", s, text, ok, want)
		}
		wantPrint(t, []api.Sign{s}, want, true)
		wantLex(t, want, []api.Sign{s}, api.OK)
	}
}

// P13.1, P13.2: the signs that are not printable: no kinds, Neg, numbers and names out of their ranges, and an N where it has to be 0.
func TestUnprintable(t *testing.T) {
	for _, s := range unprintable() {
		if Good(s) {
			t.Errorf("Good(%v) = true", s)
		}
		if text, ok := Text(s); text != "" || ok {
			t.Errorf("Text(%v) = %q, %v", s, text, ok)
		}
		wantPrint(t, []api.Sign{s}, "", false)
	}
}

// P13.1: no kinds but those of the term are printable, whatever their N.
func TestKinds(t *testing.T) {
	for kind := -300; kind <= 600; kind++ {
		for n := -3; n <= 40; n++ {
			want := n == 0 && written[kind] != "" || kind == api.Number && n >= 0 || kind == api.Name && n >= 0 && n <= 25
			if s := (api.Sign{Kind: kind, N: n}); Good(s) != want {
				t.Errorf("Good(%v) = %v", s, !want)
			}
		}
	}
}

// P13.1: the chapter's examples and other texts of signs, with and without blanks.
func TestLex(t *testing.T) {
	for _, x := range []struct {
		s string
		l []api.Sign
	}{
		{"", nil},
		{" ", nil},
		{strings.Repeat(" ", 60), nil},
		{"a<=12", []api.Sign{name('a'), {Kind: api.AtMost}, num(12)}},
		{"  a  <=  12  ", []api.Sign{name('a'), {Kind: api.AtMost}, num(12)}},
		{"a+b*3>=c-[d]", append(append([]api.Sign{name('a'), {Kind: api.Plus}, name('b'), {Kind: api.Times}, num(3), {Kind: api.AtLeast}, name('c'), {Kind: api.Minus}}, of(api.From)...), name('d'), api.Sign{Kind: api.To})},
		{"!(x==0)&y!=1|z>2", []api.Sign{{Kind: api.Not}, {Kind: api.Open}, name('x'), {Kind: api.Same}, num(0), {Kind: api.Shut}, {Kind: api.Both}, name('y'), {Kind: api.Other}, num(1), {Kind: api.Any}, name('z'), {Kind: api.More}, num(2)}},
		{")][(", of(api.Shut, api.To, api.From, api.Open)},
		{"abz", []api.Sign{name('a'), name('b'), name('z')}},
		{"a b", []api.Sign{name('a'), name('b')}},
		{"1a2", []api.Sign{num(1), name('a'), num(2)}},
		{"1 2", []api.Sign{num(1), num(2)}},
		{"0 0", []api.Sign{num(0), num(0)}},
		{"0a0", []api.Sign{num(0), name('a'), num(0)}},
		{"10 0", []api.Sign{num(10), num(0)}},
		{"-5", []api.Sign{{Kind: api.Minus}, num(5)}},
		{"- -5", []api.Sign{{Kind: api.Minus}, {Kind: api.Minus}, num(5)}},
	} {
		wantLex(t, x.s, x.l, api.OK)
	}
}

// P13.1: each sign is as long as possible, even if what follows it is then none.
func TestLexLongest(t *testing.T) {
	for s, kinds := range map[string][]int{
		"<=":     {api.AtMost},
		"<<=":    {api.Less, api.AtMost},
		"<=<":    {api.AtMost, api.Less},
		"<>":     {api.Less, api.More},
		"><":     {api.More, api.Less},
		">>=>":   {api.More, api.AtLeast, api.More},
		"<===":   {api.AtMost, api.Same},
		">===":   {api.AtLeast, api.Same},
		"!===":   {api.Other, api.Same},
		"====":   {api.Same, api.Same},
		"== ==":  {api.Same, api.Same},
		"< ==":   {api.Less, api.Same},
		"! ==":   {api.Not, api.Same},
		"!!=":    {api.Not, api.Other},
		"!!":     {api.Not, api.Not},
		"!=!":    {api.Other, api.Not},
		"<!=":    {api.Less, api.Other},
		"&&":     {api.Both, api.Both},
		"||":     {api.Any, api.Any},
		"++--**": {api.Plus, api.Plus, api.Minus, api.Minus, api.Times, api.Times},
	} {
		wantLex(t, s, of(kinds...), api.OK)
	}
	wantErrors(t, api.ErrForm, "<==", ">==", "!==", "===", "<= =", "< =", "> =", "! =", "= =", "= ==", "=<", "=>", "=!", "a===b", "=====")
}

// P13.1: bytes that begin no sign, wherever they are.
func TestLexForm(t *testing.T) {
	wantErrors(t, api.ErrForm,
		"=", "a=1", "a=", "=1", "A", "Z", "aB", "a.b", "1.5", "1,5", "1_0", "0X1", "a/b", "a%b", "a^b", "~a", "a:b", "a;b", "a?b", "@", "`a", "{", "}", "a{b", "#", "$", "\"", "'", "\\",
		"a\tb", "a\nb", "a\r", "\v", "\f", "\x00", "a\x00", "\x7f", "\x80", "\xa0", "\xff", "1\xff", "\u00e9", "\u00a0", "\u2264", "\u2003", "\u0661", "\uff11", "\uff41", "\u0430")
	// These are no single numbers, but signs without blanks between them.
	wantLex(t, "0b1", []api.Sign{num(0), name('b'), num(1)}, api.OK)
	wantLex(t, "1e5", []api.Sign{num(1), name('e'), num(5)}, api.OK)
}

// P13.1: a number with a leading zero is none, however great it is and whatever is beside it.
func TestLexLeadingZero(t *testing.T) {
	wantErrors(t, api.ErrForm, "007", "00", "01", "09", "000", "a01", "a 00", "1 01", "0 00", "00 ", " 01", "01a", "02147483647", "02147483648", "09999999999", "0"+strings.Repeat("9", 59), strings.Repeat("0", 60))
	wantLex(t, "100", []api.Sign{num(100)}, api.OK)
	wantLex(t, "1 0", []api.Sign{num(1), num(0)}, api.OK)
}

// P13.1: numbers around MaxNumber, and those that come back below it if they wrap round.
func TestLexOver(t *testing.T) {
	wantLex(t, "2147483646", []api.Sign{num(2147483646)}, api.OK)
	wantLex(t, "2147483647", []api.Sign{num(2147483647)}, api.OK)
	wantErrors(t, api.ErrOver, "2147483648", "2147483649", "2147483650", "2147483657", "3000000000", "4294967295", "4294967296", "4294967297", "9999999999", "10000000000", "21474836470", "21474836471",
		"9223372036854775807", "9223372036854775808", "18446744073709551615", "18446744073709551616", "18446744073709551617", "36893488147419103232",
		"340282366920938463463374607431768211456", "340282366920938463463374607431768211457",
		"1"+strings.Repeat("0", 59), strings.Repeat("9", 60), "a<2147483648", "2147483648a", "2147483648 ", "0 2147483648", "2147483647 2147483648")
}

// P13.1: of several errors, the first from left to right.
func TestLexFirstError(t *testing.T) {
	wantErrors(t, api.ErrOver, "3000000000 =", "3000000000=", "3000000000 00", "3000000000A", "a<3000000000\xff", "3000000000 3000000000", "99999999999999999999 007 =")
	wantErrors(t, api.ErrForm, "= 3000000000", "=3000000000", "00 3000000000", "A3000000000", "0 00 3000000000", "a === 3000000000", "01=3000000000")
}

// P13.1: a text of MaxGuard bytes is read, and one byte more is ErrLimit, whatever the bytes are.
func TestLexLimit(t *testing.T) {
	wantLex(t, strings.Repeat("a", 60), slices.Repeat([]api.Sign{name('a')}, 60), api.OK)
	wantLex(t, strings.Repeat("<=", 30), slices.Repeat(of(api.AtMost), 30), api.OK)
	wantLex(t, strings.Repeat(" ", 59)+"z", []api.Sign{name('z')}, api.OK)
	wantLex(t, "7"+strings.Repeat(" ", 59), []api.Sign{num(7)}, api.OK)
	wantErrors(t, api.ErrForm, strings.Repeat("a", 59)+"=", strings.Repeat("=", 59), "="+strings.Repeat("a", 59))
	for _, s := range []string{"a", "=", " ", "9", "0", "\xff", "\x00"} {
		for _, n := range []int{61, 62, 100, 120, 255, 256, 257, 300, 65536, 100000} {
			wantErrors(t, api.ErrLimit, strings.Repeat(s, n))
		}
	}
	wantErrors(t, api.ErrLimit, "a"+strings.Repeat(" ", 60), strings.Repeat(" ", 60)+"a", "="+strings.Repeat("a", 60), "3000000000"+strings.Repeat(" ", 51))
}

// sign matches one sign or blank at the beginning of a text. What is tried first is longer.
var sign = regexp.MustCompile(`^(?:[0-9]+|[a-z]|<=|>=|==|!=|[-+*<>&|!()\[\] ])`)

// kindOf returns the kind that is written as a text.
func kindOf(text string) int {
	for kind, form := range written {
		if form == text {
			return kind
		}
	}
	return 0
}

// slowLex is what P13.1 says, with a regular expression and unbounded arithmetic.
func slowLex(s string) ([]api.Sign, api.Errno) {
	if len(s) > 60 {
		return nil, api.ErrLimit
	}
	var l []api.Sign
	for s != "" {
		text := sign.FindString(s)
		if text == "" {
			return nil, api.ErrForm
		}
		s = s[len(text):]
		switch {
		case text == " ":
		case text >= "0" && text < ":":
			if text[0] == '0' && text != "0" {
				return nil, api.ErrForm
			}
			n, _ := new(big.Int).SetString(text, 10)
			if n.Cmp(big.NewInt(2147483647)) > 0 {
				return nil, api.ErrOver
			}
			l = append(l, num(int(n.Int64())))
		case text >= "a" && text <= "z":
			l = append(l, name(text[0]))
		default:
			l = append(l, api.Sign{Kind: kindOf(text)})
		}
	}
	return l, api.OK
}

// asSlow fails the test unless Lex does with s as slowLex does.
func asSlow(t *testing.T, s string) {
	t.Helper()
	l, e := slowLex(s)
	wantLex(t, s, l, e)
}

// P13.1: every text of up to four pieces.
func TestLexAll(t *testing.T) {
	pieces := []string{"0", "1", "9", "2147483647", "214748364", "a", "z", " ", "<", ">", "=", "!", "+", "-", "*", "&", "|", "(", ")", "[", "]", "A"}
	var try func(s string, more int)
	try = func(s string, more int) {
		asSlow(t, s)
		if more == 0 {
			return
		}
		for _, piece := range pieces {
			try(s+piece, more-1)
		}
	}
	try("", 4)
}

// P13.1: every text of up to seven of the bytes that can be taken together.
func TestLexTogether(t *testing.T) {
	var try func(s string, more int)
	try = func(s string, more int) {
		asSlow(t, s)
		if more == 0 {
			return
		}
		for _, piece := range []string{"0", "5", "<", "=", "!", " "} {
			try(s+piece, more-1)
		}
	}
	try("", 7)
}

// P13.1: every byte, and every two bytes.
func TestLexBytes(t *testing.T) {
	for x := range 256 {
		asSlow(t, string([]byte{byte(x)}))
		for y := range 256 {
			asSlow(t, string([]byte{byte(x), byte(y)}))
		}
	}
}

// P13.1: every byte at every place of a guard, in its place and beside it.
func TestLexPlaces(t *testing.T) {
	for _, s := range []string{"a<=12", "[ a + 10 ] * 2147483647 == - b", "!(x!=0)&y>=3|z>4", "3000000000 = 01"} {
		for place := range len(s) + 1 {
			for b := range 256 {
				for _, after := range []int{place, min(place+1, len(s))} {
					asSlow(t, s[:place]+string([]byte{byte(b)})+s[after:])
				}
			}
		}
	}
}

// P13.1: all numbers of up to five digits, those around each power of ten and of two, and random ones, as any digits may be.
func TestLexNumbers(t *testing.T) {
	for n := range 100000 {
		asSlow(t, strconv.Itoa(n))
	}
	ten, two := big.NewInt(1), big.NewInt(1)
	for range 190 {
		for more := int64(-2); more <= 2; more++ {
			for _, power := range []*big.Int{ten, two} {
				n := new(big.Int).Add(power, big.NewInt(more))
				asSlow(t, n.String())
				asSlow(t, "a "+n.String()+"<")
			}
		}
		ten.Mul(ten, big.NewInt(10))
		two.Mul(two, big.NewInt(2))
	}
	r := rand.New(rand.NewSource(13))
	for range 20000 {
		digits := make([]byte, 1+r.Intn(60))
		for index := range digits {
			digits[index] = '0' + byte(r.Intn(10))
		}
		asSlow(t, string(digits))
	}
}

// P13.1: random texts of up to 64 bytes of which signs are made.
func TestLexRandom(t *testing.T) {
	const bytes = "abcxyz0123456789 <>=!+-*&|()[]"
	r := rand.New(rand.NewSource(131))
	for range 100000 {
		s := make([]byte, r.Intn(65))
		for index := range s {
			s[index] = bytes[r.Intn(len(bytes))]
			// A single = would nearly always be the first error.
			if s[index] == '=' && r.Intn(8) > 0 {
				s[index] = ' '
			}
		}
		asSlow(t, string(s))
	}
}

// P13.2: texts of several signs, and none.
func TestPrint(t *testing.T) {
	wantPrint(t, nil, "", true)
	wantPrint(t, []api.Sign{}, "", true)
	for _, x := range []struct {
		l []api.Sign
		s string
	}{
		{[]api.Sign{name('a'), {Kind: api.AtMost}, num(12)}, "a <= 12"},
		{[]api.Sign{num(1), num(2), name('d'), name('e')}, "1 2 d e"},
		{[]api.Sign{num(0), num(0)}, "0 0"},
		{of(api.Minus, api.Minus, api.Not, api.Other), "- - ! !="},
		{of(api.Less, api.Same), "< =="},
		{of(api.Plus, api.Minus, api.Times, api.Less, api.AtMost, api.More, api.AtLeast, api.Same, api.Other, api.Both, api.Any, api.Not, api.Open, api.Shut, api.From, api.To), "+ - * < <= > >= == != & | ! ( ) [ ]"},
		{[]api.Sign{{Kind: api.From}, name('a'), {Kind: api.To}, {Kind: api.Times}, num(api.MaxNumber), {Kind: api.Same}, name('z')}, "[ a ] * 2147483647 == z"},
	} {
		wantPrint(t, x.l, x.s, true)
	}
	if text, ok := Print(); text != "" || !ok {
		t.Errorf("Print() = %q, %v", text, ok)
	}
}

// P13.2: Print has no limit, and one sign that is not printable is enough for false, wherever it is.
func TestPrintLong(t *testing.T) {
	const n = 100000
	l := slices.Repeat([]api.Sign{num(api.MaxNumber), {Kind: api.AtLeast}}, n)
	wantPrint(t, l, strings.Repeat(" 2147483647 >=", n)[1:], true)
	for _, place := range []int{0, 1, 2, 59, 60, n, 2*n - 1} {
		was := l[place]
		for _, s := range []api.Sign{{}, {Kind: api.Neg}, num(-1), name('z' + 1), {Kind: api.Plus, N: 1}} {
			l[place] = s
			if text, ok := Print(l...); text != "" || ok {
				t.Fatalf("Print of a list with %v at %d = %d bytes, %v", s, place, len(text), ok)
			}
		}
		l[place] = was
	}
}

// P13.2: every sign that is not printable, at each place of a short list.
func TestPrintUnprintable(t *testing.T) {
	for _, s := range unprintable() {
		for place := range 4 {
			l := []api.Sign{name('a'), {Kind: api.Less}, num(3), {Kind: api.Both}}
			l[place] = s
			wantPrint(t, l, "", false)
		}
	}
}

// back fails the test unless Print(l...) is the written forms with blanks between them, and Lex reads l from it or finds it too long.
func back(t *testing.T, forms map[api.Sign]string, l []api.Sign) {
	t.Helper()
	var words []string
	for _, s := range l {
		words = append(words, forms[s])
	}
	text := strings.Join(words, " ")
	wantPrint(t, l, text, true)
	if len(text) > 60 {
		wantLex(t, text, nil, api.ErrLimit)
		return
	}
	wantLex(t, text, l, api.OK)
}

// P13.2, P13.3: all lists of up to three signs.
func TestBack(t *testing.T) {
	forms := texts()
	back(t, forms, nil)
	for x := range forms {
		back(t, forms, []api.Sign{x})
		for y := range forms {
			back(t, forms, []api.Sign{x, y})
			for z := range forms {
				back(t, forms, []api.Sign{x, y, z})
			}
		}
	}
}

// P13.2, P13.3: random lists of signs, whose texts are shorter and longer than MaxGuard and just as long.
func TestBackRandom(t *testing.T) {
	forms := texts()
	all := slices.SortedFunc(maps.Keys(forms), func(x, y api.Sign) int {
		return cmp.Or(cmp.Compare(x.Kind, y.Kind), cmp.Compare(x.N, y.N))
	})
	r := rand.New(rand.NewSource(133))
	lengths := map[int]int{}
	for range 50000 {
		l := make([]api.Sign, r.Intn(32))
		for index := range l {
			l[index] = all[r.Intn(len(all))]
			if r.Intn(3) > 0 {
				l[index] = api.Sign{Kind: api.Plus + r.Intn(api.To-api.Plus+1)}
			}
		}
		back(t, forms, l)
		text, _ := Print(l...)
		lengths[len(text)]++
	}
	for n := 55; n <= 65; n++ {
		if lengths[n] == 0 {
			t.Errorf("no text of %d bytes was tried", n)
		}
	}
}

// P13.1, P13.2: the signs that Lex returned are the caller's own, and Print neither changes nor keeps those that it is given, nor the room behind them.
func TestMemory(t *testing.T) {
	const s = "a <= 12 & ! ( b == 3 )"
	one, _ := Lex(s)
	two, _ := Lex(s)
	want := slices.Clone(two)
	for index := range one[:cap(one)] {
		one[:cap(one)][index] = api.Sign{Kind: -7, N: -7}
	}
	if !slices.Equal(two, want) {
		t.Errorf("two results share their memory: %v", two)
	}
	wantLex(t, s, want, api.OK)

	room := append(slices.Clone(want), slices.Repeat([]api.Sign{{Kind: -8, N: -8}}, 5)...)
	was := slices.Clone(room)
	text, ok := Print(room[:len(want)]...)
	if text != s || !ok || !slices.Equal(room, was) {
		t.Errorf("Print(%v) = %q, %v, and left %v", was[:len(want)], text, ok, room)
	}
	clear(room)
	if text != s {
		t.Errorf("the text became %q with the list it was made of", text)
	}
	wantPrint(t, want, s, true)
}
