package guard

import (
	"maps"
	"math"
	"math/rand"
	"slices"
	"strconv"
	"strings"
	"testing"

	"remontoir/api"
)

// kinds are the written forms of the operators, with their numbers as package api gives them. In this test ~ is Neg.
var kinds = map[string]int{
	"+": 3, "-": 4, "*": 5, "<": 6, "<=": 7, ">": 8, ">=": 9, "==": 10, "!=": 11, "&": 12, "|": 13, "!": 14, "(": 15, ")": 16, "[": 17, "]": 18, "~": 19,
}

// signs are those of a text in which all signs are separated by blanks.
func signs(text string) []api.Sign {
	var l []api.Sign
	for _, word := range strings.Fields(text) {
		n, err := strconv.Atoi(word)
		switch {
		case kinds[word] != 0:
			l = append(l, api.Sign{Kind: kinds[word]})
		case err == nil:
			l = append(l, api.Sign{Kind: api.Number, N: n})
		default:
			l = append(l, api.Sign{Kind: api.Name, N: int(word[0]) - 'a'})
		}
	}
	return l
}

// tree is a guard, or an operand of one.
type tree struct {
	text string
	kids []tree
}

// postfix is the postfix form of a tree by its definition: the operands, and then the operator.
func (x tree) postfix() string {
	s := ""
	for _, kid := range x.kids {
		s += kid.postfix() + " "
	}
	return s + x.text
}

// infix is the infix form of a tree.
func (x tree) infix() string {
	var kids []string
	for index, kid := range x.kids {
		open, shut := brackets(x.text, kid.text, index == 1)
		kids = append(kids, open+kid.infix()+shut)
	}
	switch len(kids) {
	case 0:
		return x.text
	case 1:
		return strings.ReplaceAll(x.text, "~", "-") + " " + kids[0]
	}
	return kids[0] + " " + x.text + " " + kids[1]
}

// brackets are those around an operand, by the cases that the chapter lists.
func brackets(operator, operand string, second bool) (string, string) {
	isSum := operand == "+" || operand == "-"
	inSum := operator == "+" || operator == "-"
	switch {
	case operand == "|" && (operator == "&" || operator == "!"),
		operand == "&" && operator == "!",
		second && operand == "|" && operator == "|",
		second && operand == "&" && operator == "&":
		return "( ", " )"
	case isSum && (operator == "*" || operator == "~"),
		operand == "*" && operator == "~",
		second && isSum && inSum,
		second && operand == "*" && operator == "*":
		return "[ ", " ]"
	}
	return "", ""
}

// trees are all those of 1 up to size leaves and operators, by their size. A leaf may be a tree of its own.
func trees(size int, leaves []tree, unary, binary []string) [][]tree {
	all := [][]tree{nil, leaves}
	for n := 2; n <= size; n++ {
		var l []tree
		for _, operator := range unary {
			for _, kid := range all[n-1] {
				l = append(l, tree{operator, []tree{kid}})
			}
		}
		for _, operator := range binary {
			for left := 1; left < n-1; left++ {
				for _, x := range all[left] {
					for _, y := range all[n-1-left] {
						l = append(l, tree{operator, []tree{x, y}})
					}
				}
			}
		}
		all = append(all, l)
	}
	return all
}

// numberTrees are all sums of up to size leaves and operators.
func numberTrees(size int, leaves ...string) []tree {
	var l []tree
	for _, leaf := range leaves {
		l = append(l, tree{text: leaf})
	}
	return slices.Concat(trees(size, l, []string{"~"}, []string{"+", "-", "*"})...)
}

// booleanTrees are all guards of up to size conditions and operators.
func booleanTrees(size int, conditions ...tree) []tree {
	return slices.Concat(trees(size, conditions, []string{"!"}, []string{"&", "|"})...)
}

// comparison is a condition.
func comparison(operator string, left, right tree) tree {
	return tree{operator, []tree{left, right}}
}

// randomNumber is a sum of at most so many nested operators.
func randomNumber(r *rand.Rand, depth int) tree {
	switch pick := r.Intn(6); {
	case depth == 0 || pick == 0:
		return tree{text: []string{"a", "b", "z", "0", "1", "9", "10", "2147483647"}[r.Intn(8)]}
	case pick == 1:
		return tree{"~", []tree{randomNumber(r, depth-1)}}
	}
	return tree{[]string{"+", "-", "*"}[r.Intn(3)], []tree{randomNumber(r, depth-1), randomNumber(r, depth-1)}}
}

// randomGuard is a guard of at most so many nested operators in its conditions and around them.
func randomGuard(r *rand.Rand, depth int) tree {
	switch pick := r.Intn(6); {
	case depth == 0 || pick == 0:
		return comparison([]string{"<", "<=", ">", ">=", "==", "!="}[r.Intn(6)], randomNumber(r, r.Intn(3)), randomNumber(r, r.Intn(3)))
	case pick == 1:
		return tree{"!", []tree{randomGuard(r, depth-1)}}
	}
	return tree{[]string{"&", "|"}[r.Intn(2)], []tree{randomGuard(r, depth-1), randomGuard(r, depth-1)}}
}

// someTrees are guards with all operators in all places, and random ones.
func someTrees() []tree {
	var l []tree
	numbers := numberTrees(4, "a", "7")
	for _, operator := range []string{"<", "<=", ">", ">=", "==", "!="} {
		for _, x := range numbers {
			l = append(l, comparison(operator, x, tree{text: "b"}), comparison(operator, tree{text: "0"}, x))
		}
	}
	for _, x := range numberTrees(7, "a") {
		l = append(l, comparison("<", x, tree{text: "b"}))
	}
	l = append(l, booleanTrees(7, comparison("<", tree{text: "a"}, tree{text: "1"}))...)
	l = append(l, booleanTrees(5, comparison("==", tree{text: "a"}, tree{text: "b"}), comparison(">", tree{"+", []tree{{text: "a"}, {text: "1"}}}, tree{text: "c"}))...)
	r := rand.New(rand.NewSource(1))
	for range 20000 {
		l = append(l, randomGuard(r, r.Intn(5)))
	}
	return l
}

// wantParse fails the test unless Parse(s) returns the signs and the error.
func wantParse(t *testing.T, s string, want []api.Sign, e api.Errno) {
	t.Helper()
	if got, gotE := Parse(s); !slices.Equal(got, want) || gotE != e {
		t.Fatalf("Parse(%q) = %v, %d; want %v, %d", s, got, gotE, want, e)
	}
}

// wantErrors fails the test unless Parse returns no signs and the error for each of the texts.
func wantErrors(t *testing.T, e api.Errno, texts ...string) {
	t.Helper()
	for _, s := range texts {
		wantParse(t, s, nil, e)
	}
}

// wantPrint fails the test unless l is a valid postfix guard with the infix form text.
func wantPrint(t *testing.T, l []api.Sign, text string) {
	t.Helper()
	if !Good(l) {
		t.Fatalf("Good(%v) = false; its infix form is %q", l, text)
	}
	if got, ok := Print(l); got != text || !ok {
		t.Fatalf("Print(%v) = %q, %v; want %q", l, got, ok, text)
	}
}

// wantNotGood fails the test if l is a valid postfix guard.
func wantNotGood(t *testing.T, l []api.Sign) {
	t.Helper()
	if Good(l) {
		t.Fatalf("Good(%v) = true", l)
	}
	if got, ok := Print(l); got != "" || ok {
		t.Fatalf("Print(%v) = %q, %v", l, got, ok)
	}
}

// P14.1, P14.2: the chapter's examples and other guards in the form in which they are printed.
func TestGuards(t *testing.T) {
	for text, postfix := range map[string]string{
		"a < 3 & ! ( b == 1 | c > 2 )":              "a 3 < b 1 == c 2 > | ! &",
		"a < b + 1":                                 "a b 1 + <",
		"[ a + 1 ] * 2 == b":                        "a 1 + 2 * b ==",
		"a - b - c >= 0":                            "a b - c - 0 >=",
		"a - [ b - c ] <= 0":                        "a b c - - 0 <=",
		"a * b * c != 0":                            "a b * c * 0 !=",
		"a * [ b * c ] != 0":                        "a b c * * 0 !=",
		"- a * b < - [ a * b ]":                     "a ~ b * a b * ~ <",
		"- - a > - [ a + b ]":                       "a ~ ~ a b + ~ >",
		"a - - b == [ a - b ] * - c":                "a b ~ - a b - c ~ * ==",
		"0 < 1 | 1 < 2 & 2 < 3":                     "0 1 < 1 2 < 2 3 < & |",
		"( 0 < 1 | 1 < 2 ) & 2 < 3":                 "0 1 < 1 2 < | 2 3 < &",
		"0 < 1 & ( 1 < 2 & 2 < 3 )":                 "0 1 < 1 2 < 2 3 < & &",
		"0 < 1 | 1 < 2 | ( 2 < 3 | 3 < 4 )":         "0 1 < 1 2 < | 2 3 < 3 4 < | |",
		"! ! a < 1 & ! ( a < 1 & b < 1 ) | z != 10": "a 1 < ! ! a 1 < b 1 < & ! & z 10 != |",
		"0 == 2147483647":                           "0 2147483647 ==",
	} {
		wantParse(t, text, signs(postfix), api.OK)
		wantParse(t, strings.ReplaceAll(text, " ", ""), signs(postfix), api.OK)
		wantPrint(t, signs(postfix), text)
	}
}

// P14.1: brackets around any guard and any sum, even if they change nothing.
func TestNeedlessBrackets(t *testing.T) {
	for text, postfix := range map[string]string{
		"(a<1)":                 "a 1 <",
		"((a<1))":               "a 1 <",
		"[a]<[[1]]":             "a 1 <",
		"(a<1)|((b<2)&(c<3))":   "a 1 < b 2 < c 3 < & |",
		"((a<1)|b<2)|c<3":       "a 1 < b 2 < | c 3 < |",
		"!(!(a<1))":             "a 1 < ! !",
		"[a*b]+[c]<1":           "a b * c + 1 <",
		"[a-b]-c<-[-[a]]":       "a b - c - a ~ ~ <",
		" ( [ a ] < [ b+c ] ) ": "a b c + <",
	} {
		wantParse(t, text, signs(postfix), api.OK)
	}
}

// P14.1: as many levels of brackets and operators as a text has room for.
func TestDeep(t *testing.T) {
	wantParse(t, strings.Repeat("(", 28)+"a<1"+strings.Repeat(")", 28), signs("a 1 <"), api.OK)
	wantParse(t, strings.Repeat("[", 28)+"a"+strings.Repeat("]", 28)+"<1", signs("a 1 <"), api.OK)
	wantParse(t, strings.Repeat("!", 57)+"a<1", signs("a 1 <"+strings.Repeat(" !", 57)), api.OK)
	wantParse(t, strings.Repeat("-", 57)+"a<1", signs("a"+strings.Repeat(" ~", 57)+" 1 <"), api.OK)
	wantParse(t, "a<1"+strings.Repeat("|a<1", 14), signs("a 1 <"+strings.Repeat(" a 1 < |", 14)), api.OK)
}

// P14.1: signs that are not a guard.
func TestNoGuards(t *testing.T) {
	wantErrors(t, api.ErrForm,
		"", " ", "a", "1", "a+1", "-a", "[a]", "a<", "<a", "<", "a<b<c", "a<b==c", "(a)<1", "(a+b)<1", "a<(1)", "[a<1]", "[(a<1)]",
		"a&b", "a|b", "!a", "!", "&", "a<1&", "&a<1", "a<1|", "|a<1", "a<1&&b<2", "a<1&|b<2", "a<1|b", "a<1!", "a!<1", "a<!b", "a<1!b<2",
		"(a<1", "a<1)", "(a<1))", "((a<1)", "(a<1]", "[a<1)", "[a)<1", "(a]<1", "()", "[]<1", ")(", ")a<1(", "a<1()", "a<1(b<2)", "(a<1)(b<2)",
		"[a<1", "a]<1", "[a+1<2", "[a+]<1", "a[1]<2", "[a][1]<2", "a b<1", "a 1<2", "1 2<3", "a<1 2", "a<1 b<2",
		"a+*b<1", "+a<1", "*a<1", "a+<1", "a*<1", "a--<1", "a<+1", "a<-", "-<1", "a<1+", "a<1-", "a<1*",
		"-(a<1)", "(a<1)<1", "(a<1)==(b<2)", "(a<1)+1<2", "a<b!=c", "a<1&(b)", "!(a)", "~a<1", "a==~b",
		strings.Repeat("(", 60), strings.Repeat("[", 60), strings.Repeat("!", 60), strings.Repeat("-", 60), strings.Repeat(")", 60), strings.Repeat("a", 60),
		strings.Repeat("(", 30)+strings.Repeat(")", 30), strings.Repeat("[", 30)+strings.Repeat("]", 30),
	)
}

// P14.1: the error of lex.Lex goes ahead of ErrForm for signs that are not a guard.
func TestLexErrors(t *testing.T) {
	wantErrors(t, api.ErrOver, "a<2147483648", "3000000000", "<3000000000", "a a 3000000000", "3000000000 =", "(3000000000")
	wantErrors(t, api.ErrForm, "a=1", "a<007", "A<1", "= 3000000000", "a<1;", "a<\t1", "a<1\x00", "a<\xff", "01 3000000000")
	wantErrors(t, api.ErrLimit, "a<1"+strings.Repeat(" ", 58), strings.Repeat("(", 61), strings.Repeat("=", 61), strings.Repeat("9", 61))
	wantParse(t, "a<1"+strings.Repeat(" ", 57), signs("a 1 <"), api.OK)
}

// sentences are the texts of n signs, without blanks, that are of one thing of the grammar, with their postfix forms.
type sentences map[string]string

// add adds the sentences that the three things make one behind the other, with the forms that form gives.
func (m sentences) add(a, b, c sentences, form func(a, b, c string) string) {
	for x, xForm := range a {
		for y, yForm := range b {
			for z, zForm := range c {
				m[x+y+z] = form(xForm, yForm, zForm)
			}
		}
	}
}

// language is the grammar of the chapter, written out: for each of its things and each number of signs all sentences.
type language struct {
	leaves, comparisons                                       []string
	guards, conjunctions, conditions, sums, products, factors []sentences
}

// mark is a sentence of one sign.
func mark(texts ...string) sentences {
	m := sentences{}
	for _, text := range texts {
		m[text] = text
	}
	return m
}

// binary is the postfix form of two operands around an operator.
func binary(left, operator, right string) string { return left + " " + right + " " + operator }

// inner is the form of what stands between brackets.
func inner(_, form, _ string) string { return form }

// prefix gives the form of what stands behind one sign.
func prefix(operator string) func(_, _, form string) string {
	return func(_, _, form string) string { return form + " " + operator }
}

// grow adds the sentences with n signs to the language, in which all shorter ones are.
func (g *language) grow(n int) {
	empty := sentences{"": ""}
	factors, products, sums := sentences{}, sentences{}, sentences{}
	conditions, conjunctions, guards := sentences{}, sentences{}, sentences{}
	if n == 1 {
		maps.Copy(factors, mark(g.leaves...))
	}
	if n >= 2 {
		factors.add(empty, mark("-"), g.factors[n-1], prefix("~"))
		conditions.add(empty, mark("!"), g.conditions[n-1], prefix("!"))
	}
	if n >= 3 {
		factors.add(mark("["), g.sums[n-2], mark("]"), inner)
		conditions.add(mark("("), g.guards[n-2], mark(")"), inner)
	}
	maps.Copy(products, factors)
	for k := 1; k < n-1; k++ {
		products.add(g.products[k], mark("*"), g.factors[n-1-k], binary)
	}
	maps.Copy(sums, products)
	for k := 1; k < n-1; k++ {
		sums.add(g.sums[k], mark("+", "-"), g.products[n-1-k], binary)
		conditions.add(g.sums[k], mark(g.comparisons...), g.sums[n-1-k], binary)
	}
	maps.Copy(conjunctions, conditions)
	for k := 1; k < n-1; k++ {
		conjunctions.add(g.conjunctions[k], mark("&"), g.conditions[n-1-k], binary)
	}
	maps.Copy(guards, conjunctions)
	for k := 1; k < n-1; k++ {
		guards.add(g.guards[k], mark("|"), g.conjunctions[n-1-k], binary)
	}
	g.factors, g.products, g.sums = append(g.factors, factors), append(g.products, products), append(g.sums, sums)
	g.conditions, g.conjunctions, g.guards = append(g.conditions, conditions), append(g.conjunctions, conjunctions), append(g.guards, guards)
}

// newLanguage is the language with the leaves and comparisons up to a number of signs.
func newLanguage(size int, leaves, comparisons []string) *language {
	g := &language{leaves: leaves, comparisons: comparisons}
	for n := range size + 1 {
		g.grow(n)
	}
	return g
}

// wantAsIn fails the test unless Parse answers for a text of n signs as the language does.
func (g *language) wantAsIn(t *testing.T, n int, text string) {
	t.Helper()
	if form, ok := g.guards[n][text]; ok {
		wantParse(t, text, signs(form), api.OK)
	} else {
		wantErrors(t, api.ErrForm, text)
	}
}

// P14.1: all texts of up to five signs, of which exactly those of the language are guards.
func TestShortTexts(t *testing.T) {
	g := newLanguage(5, []string{"a", "7"}, []string{"<", "!="})
	alphabet := []string{"a", "7", "+", "-", "*", "<", "!=", "&", "|", "!", "(", ")", "[", "]"}
	var try func(n int, text string)
	try = func(n int, text string) {
		g.wantAsIn(t, n, text)
		if n == 5 {
			return
		}
		for _, word := range alphabet {
			if !splits(text+word, n+1) {
				continue
			}
			try(n+1, text+word)
		}
	}
	try(0, "")
}

// splits reports whether the text without blanks is of n signs: "!" and "7" may not run into the next sign.
func splits(text string, n int) bool {
	return !strings.Contains(text, "77") && len(strings.ReplaceAll(text, "!=", "x")) == n
}

// P14.1: longer guards, and what becomes of them if one sign is left out, added or replaced.
func TestLongerTexts(t *testing.T) {
	const size = 9
	g := newLanguage(size, []string{"a"}, []string{"<"})
	r := rand.New(rand.NewSource(2))
	for n := range size + 1 {
		for _, text := range slices.Sorted(maps.Keys(g.guards[n])) {
			g.wantAsIn(t, n, text)
			at, word := r.Intn(n), string("a+-*<&|!()[]"[r.Intn(12)])
			g.wantAsIn(t, n-1, text[:at]+text[at+1:])
			g.wantAsIn(t, n, text[:at]+word+text[at+1:])
			if n < size {
				g.wantAsIn(t, n+1, text[:at]+word+text[at:])
			}
		}
	}
}

// P14.2, P14.3: guards with all operators in all places have the brackets that the chapter lists, and are read back.
func TestTrees(t *testing.T) {
	short := 0
	for _, x := range someTrees() {
		l, text := signs(x.postfix()), x.infix()
		wantPrint(t, l, text)
		if len(text) <= api.MaxGuard {
			wantParse(t, text, l, api.OK)
			short++
		}
	}
	if short < 10000 {
		t.Errorf("only %d guards have at most MaxGuard bytes", short)
	}
}

// P14.2: a guard may be long and nested to a depth, and the time for it grows only with its length.
func TestLong(t *testing.T) {
	const n = 300000
	less := "0 < 1"
	wantPrint(t, signs("0 1 <"+strings.Repeat(" 0 1 < |", n)), less+strings.Repeat(" | "+less, n))
	wantPrint(t, signs("0 1 <"+strings.Repeat(" 0 1 <", n)+strings.Repeat(" &", n)), strings.Repeat(less+" & ( ", n-1)+less+" & "+less+strings.Repeat(" )", n-1))
	wantPrint(t, signs("0 1 <"+strings.Repeat(" !", n)), strings.Repeat("! ", n)+less)
	wantPrint(t, signs("0 1"+strings.Repeat(" ~", n)+" <"), "0 <"+strings.Repeat(" -", n)+" 1")
	wantPrint(t, signs("0"+strings.Repeat(" 1", n)+strings.Repeat(" -", n-1)+" <"), "0 < "+strings.Repeat("1 - [ ", n-2)+"1 - 1"+strings.Repeat(" ]", n-2))
	wantNotGood(t, signs("0 1 <"+strings.Repeat(" 0 1 < |", n)+" |"))
	wantNotGood(t, signs(strings.Repeat("0 1 < ", n)))
}

// yields is the type that the postfix list l, read from its end, has by the chapter's typing, and how much of l remains ahead of it. It is "" if there is no such type.
func yields(l []string) (string, []string) {
	if len(l) == 0 {
		return "", nil
	}
	last, rest := l[len(l)-1], l[:len(l)-1]
	operands := map[string]string{"~": "n", "!": "b", "+": "nn", "-": "nn", "*": "nn", "<": "nn", "!=": "nn", "&": "bb", "|": "bb"}
	for _, want := range operands[last] {
		var got string
		got, rest = yields(rest)
		if got != string(want) {
			return "", nil
		}
	}
	switch last {
	case "a", "7", "~", "+", "-", "*":
		return "n", rest
	case "!", "<", "!=", "&", "|":
		return "b", rest
	}
	return "", nil
}

// P14.1, P14.2: of all lists of up to five signs, exactly those that evaluate to one boolean are valid.
func TestShortLists(t *testing.T) {
	alphabet := []string{"a", "7", "+", "-", "*", "~", "<", "!=", "&", "|", "!", "(", ")", "[", "]"}
	var try func(l []string)
	try = func(l []string) {
		kind, rest := yields(l)
		got := signs(strings.Join(l, " "))
		if kind == "b" && len(rest) == 0 {
			if text, ok := Print(got); !Good(got) || text == "" || !ok {
				t.Fatalf("%v is not valid, Print returns %q, %v", l, text, ok)
			}
		} else {
			wantNotGood(t, got)
		}
		if len(l) == 5 {
			return
		}
		for _, word := range alphabet {
			try(append(slices.Clone(l), word))
		}
	}
	try(nil)
}

// P14.1: guards of which one sign is left out, added, replaced or exchanged with the next one are valid if they evaluate to one boolean.
func TestLongerLists(t *testing.T) {
	r := rand.New(rand.NewSource(3))
	words := []string{"a", "7", "+", "-", "*", "~", "<", "!=", "&", "|", "!", "("}
	for range 20000 {
		x := randomGuard(r, 3).postfix()
		for old, now := range map[string]string{"<=": "<", ">": "<", ">=": "<", "==": "!=", "b": "a", "z": "a", "0": "7", "1": "7", "9": "7", "10": "7", "2147483647": "7"} {
			x = strings.ReplaceAll(" "+x+" ", " "+old+" ", " "+now+" ")
			x = strings.ReplaceAll(x, " "+old+" ", " "+now+" ")
		}
		l := strings.Fields(x)
		at := r.Intn(len(l))
		switch r.Intn(4) {
		case 0:
			l = slices.Delete(l, at, at+1)
		case 1:
			l = slices.Insert(l, at, words[r.Intn(len(words))])
		case 2:
			l[at] = words[r.Intn(len(words))]
		default:
			next := (at + 1) % len(l)
			l[at], l[next] = l[next], l[at]
		}
		kind, rest := yields(l)
		if got := Good(signs(strings.Join(l, " "))); got != (kind == "b" && len(rest) == 0) {
			t.Fatalf("Good of %v is %v", l, got)
		}
	}
}

// oddNumbers are no numbers of a guard. Some of them are if only their lowest 31 or 32 bits are read.
var oddNumbers = []int{math.MinInt, -1 << 32, -1<<32 + 5, -1 << 31, -256, -1, 1 << 31, 1 << 32, 1<<32 + 5, math.MaxInt}

// oddNames are no variables. Some of them are one if only their lowest 5, 8 or 32 bits are read.
var oddNames = []int{math.MinInt, -1 << 32, -26, -1, 26, 27, 32, 97, 256, 1 << 32, 1<<32 + 1, math.MaxInt}

// oddKinds are no kinds, or the kinds of brackets. Some of them are other kinds if only their lowest 5, 8 or 32 bits are read.
var oddKinds = []int{math.MinInt, -1 << 32, -1<<32 + 1, -256, -13, -1, 0, api.Open, api.Shut, api.From, api.To, 20, 21, 32, 33, 34, 38, 46, 51, 256, 257, 258, 262, 270, 275, 1 << 32, 1<<32 + 1, 1<<32 + 2, 1<<32 + 6, 1<<32 + 14, 1<<32 + 19, math.MaxInt}

// P14.1, P14.2: the ranges of numbers and names, and an N of 0 for all other signs.
func TestN(t *testing.T) {
	for _, s := range []api.Sign{{Kind: api.Number}, {Kind: api.Number, N: 1}, {Kind: api.Number, N: api.MaxNumber}, {Kind: api.Name}, {Kind: api.Name, N: 25}} {
		if l := []api.Sign{s, s, {Kind: api.Less}}; !Good(l) {
			t.Errorf("Good(%v) = false", l)
		}
	}
	valid := signs("a 1 + ~ 2 - 3 * 4 < 5 6 <= & 7 8 > | 9 10 >= 11 12 == 13 14 != & | ! &")
	if !Good(valid) {
		t.Fatal("Good of all kinds is false")
	}
	for index, s := range valid {
		odd := append(slices.Clone(oddNumbers), oddNames...)
		switch s.Kind {
		case api.Number:
			odd = oddNumbers
		case api.Name:
			odd = oddNames
		default:
			odd = append(odd, 1, 2, 25)
		}
		for _, n := range odd {
			l := slices.Clone(valid)
			l[index].N = n
			wantNotGood(t, l)
		}
		for _, kind := range oddKinds {
			l := slices.Clone(valid)
			l[index].Kind = kind
			wantNotGood(t, l)
		}
	}
}

// P14.1, P14.2: lists that hold only signs that do not occur, and the empty list.
func TestOddLists(t *testing.T) {
	wantNotGood(t, nil)
	wantNotGood(t, []api.Sign{})
	for _, kind := range oddKinds {
		for _, n := range oddNumbers {
			wantNotGood(t, []api.Sign{{Kind: kind, N: n}})
			wantNotGood(t, append(signs("0 1 <"), api.Sign{Kind: kind, N: n}))
		}
		wantNotGood(t, []api.Sign{{Kind: kind}})
		wantNotGood(t, append(signs("0 1 <"), api.Sign{Kind: kind}))
	}
}

// P14.2: the variables of a list that need not be valid, with any N.
func TestUses(t *testing.T) {
	for text, want := range map[string][]int{
		"":                    nil,
		"1 2 <":               nil,
		"a":                   {0},
		"z z z":               {25},
		"c a c b <":           {0, 1, 2},
		"z ( b ) ~ a ! z 7 0": {0, 1, 25},
	} {
		if got := Uses(signs(text)); !slices.Equal(got, want) {
			t.Errorf("Uses of %q is %v; want %v", text, got, want)
		}
	}
	odd := []api.Sign{{Kind: api.Name, N: 40}, {Kind: api.Name, N: -3}, {Kind: api.Number, N: 7}, {Kind: api.Name, N: 40}, {Kind: api.Neg, N: 8}, {Kind: 1<<32 + api.Name, N: 9}, {Kind: -api.Name, N: 9}, {Kind: api.Name, N: math.MaxInt}, {Kind: api.Name, N: math.MinInt}}
	if got := Uses(odd); !slices.Equal(got, []int{math.MinInt, -3, 40, math.MaxInt}) {
		t.Errorf("Uses(%v) = %v", odd, got)
	}
}

// P14.2: against a search for each number in lists with many names.
func TestUsesOften(t *testing.T) {
	r := rand.New(rand.NewSource(4))
	for range 2000 {
		var l []api.Sign
		for range r.Intn(40) {
			l = append(l, api.Sign{Kind: r.Intn(4), N: r.Intn(60) - 30})
		}
		var want []int
		for n := -30; n < 30; n++ {
			if slices.Contains(l, api.Sign{Kind: api.Name, N: n}) {
				want = append(want, n)
			}
		}
		if got := Uses(l); !slices.Equal(got, want) {
			t.Fatalf("Uses(%v) = %v; want %v", l, got, want)
		}
	}
}

// All functions: arguments are not modified, nor is their spare capacity, and results share no memory.
func TestMemory(t *testing.T) {
	whole := signs("b 1 < a ! b a < & & a 1 + ~ 2 < |")
	was := slices.Clone(whole)
	for n := range whole {
		Good(whole[:n])
		Print(whole[:n])
		Uses(whole[:n])
	}
	if !slices.Equal(whole, was) {
		t.Fatalf("the argument has become %v", whole)
	}
	first, _ := Parse("a < 1 & b < 2")
	second, _ := Parse("a < 1 & b < 2")
	clearAll(first)
	if third, _ := Parse("a < 1 & b < 2"); !slices.Equal(second, signs("a 1 < b 2 < &")) || !slices.Equal(third, second) {
		t.Errorf("a change of one result has changed another: %v, %v", second, third)
	}
	names := Uses(whole)
	again := Uses(whole)
	clearAll(names)
	if !slices.Equal(again, []int{0, 1}) || !slices.Equal(whole, was) {
		t.Errorf("a change of one result has changed another: %v", again)
	}
}

// clearAll overwrites a list and its spare capacity.
func clearAll[T any](l []T) { clear(l[:cap(l)]) }
