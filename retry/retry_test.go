package retry

import (
	"math"
	"math/rand"
	"slices"
	"testing"

	"remontoir/api"
)

// of is a job state.
func of(state, used int) api.Try { return api.Try{State: state, Used: used} }

// whats are all that can happen to a job, and numbers that are none of it.
var whats = []int{api.Fetched, api.Answered, api.Failed, api.Rested, 0, 5, 6, -1, -2, 1<<32 + 1, 1<<32 + 3, math.MinInt, math.MaxInt}

// odd are numbers of retries, states and numbers of leases that are never valid.
var odd = []int{math.MinInt, math.MinInt + 1, -1 << 32, -2, -1, 11, 12, 1<<31 - 1, 1 << 31, 1 << 32, 1<<32 + 1, 1<<32 + 2, 1<<62 + 1, math.MaxInt - 1, math.MaxInt}

// valid lists the valid states for a number of retries in the order of the chapter's term.
func valid(tries int) []api.Try {
	if !slices.Contains([]int{0, 1, 2, 3, 4, 5, 6, 7, 8, 9}, tries) {
		return nil
	}
	var l []api.Try
	for used := range tries + 1 {
		l = append(l, of(api.Waiting, used))
	}
	for used := range tries + 1 {
		l = append(l, of(api.Leased, used+1), of(api.Ended, used+1))
	}
	for used := range tries {
		l = append(l, of(api.Resting, used+1))
	}
	return append(l, of(api.Dead, tries+1))
}

// move is what the document says of one Step: from, what happens, and to. More is what it adds to Used.
type move struct {
	from, what, to, more int
}

// moves are all moves but the failing of the last try.
var moves = []move{
	{api.Waiting, api.Fetched, api.Leased, 1},
	{api.Leased, api.Answered, api.Ended, 0},
	{api.Leased, api.Failed, api.Resting, 0},
	{api.Resting, api.Rested, api.Waiting, 0},
}

// stepOf takes a Step from the list of moves.
func stepOf(tries int, t api.Try, what int) (api.Try, bool) {
	if !slices.Contains(valid(tries), t) {
		return api.Try{}, false
	}
	if t == of(api.Leased, tries+1) && what == api.Failed {
		return of(api.Dead, tries+1), true
	}
	for _, m := range moves {
		if m.from == t.State && m.what == what {
			return of(m.to, t.Used+m.more), true
		}
	}
	return api.Try{}, false
}

// longest finds the greatest number of Steps that can still succeed by trying all of them.
func longest(tries int, t api.Try) int {
	most := 0
	for _, what := range whats {
		if next, ok := stepOf(tries, t, what); ok {
			most = max(most, 1+longest(tries, next))
		}
	}
	return most
}

// each calls f with numbers of retries and states, valid and invalid ones, their edges among them.
func each(f func(tries int, t api.Try)) {
	numbers := slices.Clone(odd)
	for n := range 11 {
		numbers = append(numbers, n)
	}
	for _, tries := range numbers {
		for _, state := range numbers {
			for _, used := range numbers {
				f(tries, of(state, used))
			}
		}
	}
}

// P11.1: the ends of each state's range of Used, for the least and the greatest number of retries and for one between.
func TestGoodEnds(t *testing.T) {
	for _, x := range []struct {
		tries, state, least, most int
	}{
		{0, api.Waiting, 0, 0}, {0, api.Leased, 1, 1}, {0, api.Ended, 1, 1}, {0, api.Dead, 1, 1},
		{1, api.Waiting, 0, 1}, {1, api.Leased, 1, 2}, {1, api.Resting, 1, 1}, {1, api.Ended, 1, 2}, {1, api.Dead, 2, 2},
		{4, api.Waiting, 0, 4}, {4, api.Leased, 1, 5}, {4, api.Resting, 1, 4}, {4, api.Ended, 1, 5}, {4, api.Dead, 5, 5},
		{9, api.Waiting, 0, 9}, {9, api.Leased, 1, 10}, {9, api.Resting, 1, 9}, {9, api.Ended, 1, 10}, {9, api.Dead, 10, 10},
	} {
		for used := -3; used <= 14; used++ {
			want := used >= x.least && used <= x.most
			if got := Good(x.tries, of(x.state, used)); got != want {
				t.Errorf("Good(%d, %v) = %v", x.tries, of(x.state, used), got)
			}
		}
	}
	for used := -3; used <= 14; used++ {
		if Good(0, of(api.Resting, used)) {
			t.Errorf("with no retries, a job rests with Used %d", used)
		}
	}
}

// P11.1: numbers of retries out of the range, states that are none and the zero state are not valid.
func TestGoodInvalid(t *testing.T) {
	for _, tries := range []int{math.MinInt, -1, 10, 1 << 32, math.MaxInt} {
		for state := range 7 {
			for used := -1; used <= 11; used++ {
				if Good(tries, of(state, used)) {
					t.Errorf("Good(%d, %v) = true", tries, of(state, used))
				}
			}
		}
		// These would be valid if tries were not limited, or tries + 1 were to overflow.
		for _, x := range []api.Try{of(api.Dead, tries), of(api.Leased, tries), of(api.Dead, math.MinInt), of(api.Waiting, tries)} {
			if Good(tries, x) {
				t.Errorf("Good(%d, %v) = true", tries, x)
			}
		}
	}
	for _, x := range []api.Try{{}, of(0, 1), of(6, 1), of(-1, 1), of(1<<32+api.Waiting, 1), of(math.MaxInt, 1), of(math.MinInt, 1)} {
		if Good(3, x) {
			t.Errorf("Good(3, %v) = true", x)
		}
	}
}

// P11.1: Good agrees with the list of all valid states.
func TestGoodAll(t *testing.T) {
	each(func(tries int, x api.Try) {
		if got := Good(tries, x); got != slices.Contains(valid(tries), x) {
			t.Errorf("Good(%d, %v) = %v", tries, x, got)
		}
	})
}

// P11.1: the Steps that the promise lists, the last try among them, and some that it does not list.
func TestStep(t *testing.T) {
	none := api.Try{}
	for _, x := range []struct {
		tries int
		t     api.Try
		what  int
		to    api.Try
	}{
		{2, of(api.Waiting, 0), api.Fetched, of(api.Leased, 1)},
		{2, of(api.Waiting, 2), api.Fetched, of(api.Leased, 3)},
		{0, of(api.Waiting, 0), api.Fetched, of(api.Leased, 1)},
		{9, of(api.Waiting, 9), api.Fetched, of(api.Leased, 10)},
		{2, of(api.Leased, 1), api.Answered, of(api.Ended, 1)},
		{2, of(api.Leased, 3), api.Answered, of(api.Ended, 3)},
		{2, of(api.Leased, 1), api.Failed, of(api.Resting, 1)},
		{2, of(api.Leased, 2), api.Failed, of(api.Resting, 2)},
		{2, of(api.Leased, 3), api.Failed, of(api.Dead, 3)},
		{0, of(api.Leased, 1), api.Failed, of(api.Dead, 1)},
		{9, of(api.Leased, 9), api.Failed, of(api.Resting, 9)},
		{9, of(api.Leased, 10), api.Failed, of(api.Dead, 10)},
		{2, of(api.Resting, 1), api.Rested, of(api.Waiting, 1)},
		{2, of(api.Resting, 2), api.Rested, of(api.Waiting, 2)},
		{2, of(api.Waiting, 1), api.Rested, none},
		{2, of(api.Waiting, 1), api.Answered, none},
		{2, of(api.Waiting, 1), api.Failed, none},
		{2, of(api.Leased, 1), api.Fetched, none},
		{2, of(api.Leased, 1), api.Rested, none},
		{2, of(api.Resting, 1), api.Fetched, none},
		{2, of(api.Resting, 1), api.Answered, none},
		{2, of(api.Resting, 1), api.Failed, none},
		{2, of(api.Ended, 1), api.Fetched, none},
		{2, of(api.Ended, 1), api.Answered, none},
		{2, of(api.Dead, 3), api.Rested, none},
		{2, of(api.Dead, 3), api.Failed, none},
		{2, of(api.Waiting, 0), 0, none},
		{2, of(api.Leased, 1), 5, none},
		{2, of(api.Resting, 1), 1<<32 + api.Rested, none},
		{2, of(api.Waiting, 3), api.Fetched, none},
		{2, of(api.Leased, 0), api.Answered, none},
		{2, of(api.Leased, 4), api.Failed, none},
		{2, of(api.Resting, 0), api.Rested, none},
		{2, of(api.Resting, 3), api.Rested, none},
		{10, of(api.Waiting, 0), api.Fetched, none},
		{-1, of(api.Waiting, 0), api.Fetched, none},
		{2, none, api.Fetched, none},
	} {
		if got, ok := Step(x.tries, x.t, x.what); got != x.to || ok != (x.to != none) {
			t.Errorf("Step(%d, %v, %d) = %v, %v; want %v", x.tries, x.t, x.what, got, ok, x.to)
		}
	}
}

// P11.1, P11.3: for every number of retries, state and event, Step agrees with the list of moves, and its state is valid and has a smaller Left.
func TestStepAll(t *testing.T) {
	each(func(tries int, x api.Try) {
		for _, what := range whats {
			got, ok := Step(tries, x, what)
			if want, wantOk := stepOf(tries, x, what); got != want || ok != wantOk {
				t.Fatalf("Step(%d, %v, %d) = %v, %v; want %v, %v", tries, x, what, got, ok, want, wantOk)
			}
			if ok && (!Good(tries, got) || Left(tries, got) >= Left(tries, x)) {
				t.Fatalf("Step(%d, %v, %d) = %v, whose Left is %d, behind %d", tries, x, what, got, Left(tries, got), Left(tries, x))
			}
		}
	})
}

// P11.2: the chapter's examples, skipped events, an empty list, and states that nothing leaves.
func TestRun(t *testing.T) {
	f, a, x, r := api.Fetched, api.Answered, api.Failed, api.Rested
	for _, c := range []struct {
		tries   int
		t       api.Try
		l       []int
		to      api.Try
		skipped int
	}{
		{1, of(api.Waiting, 0), []int{f, x, r, f, x}, of(api.Dead, 2), 0},
		{1, of(api.Waiting, 0), []int{f, a}, of(api.Ended, 1), 0},
		{1, of(api.Waiting, 0), nil, of(api.Waiting, 0), 0},
		{1, of(api.Waiting, 0), []int{}, of(api.Waiting, 0), 0},
		{1, of(api.Dead, 2), nil, of(api.Dead, 2), 0},
		{1, of(api.Dead, 2), []int{f, a, x, r}, of(api.Dead, 2), 4},
		{1, of(api.Ended, 1), []int{f, a, x, r, f}, of(api.Ended, 1), 5},
		{2, of(api.Waiting, 0), []int{r, a, 0, f, f, 9, x, -1, x, a, r, r}, of(api.Waiting, 1), 9},
		{2, of(api.Leased, 2), []int{x, r, f, a, a}, of(api.Ended, 3), 1},
		{2, of(api.Leased, 3), []int{x, r, f, a, a}, of(api.Dead, 3), 4},
		{2, of(api.Resting, 2), []int{r, f, x}, of(api.Dead, 3), 0},
		{0, of(api.Waiting, 0), []int{f, x, r, f}, of(api.Dead, 1), 2},
		{2, of(api.Waiting, 3), []int{f, a, x}, api.Try{}, 3},
		{2, of(api.Waiting, 3), nil, api.Try{}, 0},
		{2, api.Try{}, []int{f, a}, api.Try{}, 2},
		{10, of(api.Waiting, 0), []int{f}, api.Try{}, 1},
		{-1, of(api.Waiting, 0), []int{f, a}, api.Try{}, 2},
	} {
		if got, n := Run(c.tries, c.t, c.l...); got != c.to || n != c.skipped {
			t.Errorf("Run(%d, %v, %v) = %v, %d; want %v, %d", c.tries, c.t, c.l, got, n, c.to, c.skipped)
		}
	}
}

// P11.2: Run agrees with one Step after the other, from every valid state and some invalid ones, along all lists of at most five events; the list and the room behind it stay as they were.
func TestRunAll(t *testing.T) {
	events := []int{api.Fetched, api.Answered, api.Failed, api.Rested, 7}
	var along func(room []int, n int)
	along = func(room []int, n int) {
		was := slices.Clone(room)
		for _, tries := range []int{0, 1, 9, 10} {
			for _, x := range append(valid(tries), api.Try{}, of(api.Dead, tries), of(api.Waiting, tries+1)) {
				want, skipped := runOf(tries, x, room[:n])
				if got, m := Run(tries, x, room[:n]...); got != want || m != skipped {
					t.Fatalf("Run(%d, %v, %v) = %v, %d; want %v, %d", tries, x, room[:n], got, m, want, skipped)
				}
			}
		}
		if !slices.Equal(room, was) {
			t.Fatalf("Run made %v of the list %v and the room behind it", room, was)
		}
		if n == 5 {
			return
		}
		for _, what := range events {
			room[n] = what
			along(room, n+1)
		}
	}
	along([]int{-901, -902, -903, -904, -905, -906}, 0)
}

// runOf takes one Step of the list of moves after the other.
func runOf(tries int, x api.Try, l []int) (api.Try, int) {
	if !slices.Contains(valid(tries), x) {
		return api.Try{}, len(l)
	}
	skipped := 0
	for _, what := range l {
		if next, ok := stepOf(tries, x, what); ok {
			x = next
		} else {
			skipped++
		}
	}
	return x, skipped
}

// P11.2: Left by the promise's words, for states with few and many leases left, those that are over and those that are not valid.
func TestLeft(t *testing.T) {
	for _, x := range []struct {
		tries int
		t     api.Try
		left  int
	}{
		{0, of(api.Waiting, 0), 2},
		{0, of(api.Leased, 1), 1},
		{3, of(api.Waiting, 0), 11},
		{3, of(api.Leased, 1), 10},
		{3, of(api.Resting, 1), 9},
		{3, of(api.Waiting, 1), 8},
		{3, of(api.Waiting, 3), 2},
		{3, of(api.Resting, 3), 3},
		{3, of(api.Leased, 4), 1},
		{9, of(api.Waiting, 0), 29},
		{3, of(api.Ended, 1), 0},
		{3, of(api.Dead, 4), 0},
		{3, of(api.Waiting, 4), 0},
		{3, of(api.Resting, 0), 0},
		{3, of(api.Leased, 0), 0},
		{3, of(api.Waiting, -1), 0},
		{3, of(0, 0), 0},
		{3, of(6, 1), 0},
		{-1, of(api.Waiting, 0), 0},
		{10, of(api.Waiting, 0), 0},
		{math.MaxInt, of(api.Waiting, 0), 0},
		{3, of(api.Waiting, math.MinInt), 0},
	} {
		if got := Left(x.tries, x.t); got != x.left {
			t.Errorf("Left(%d, %v) = %d; want %d", x.tries, x.t, got, x.left)
		}
	}
}

// P11.2: Left is the number of Steps on the longest way that trying all of them finds.
func TestLeftAll(t *testing.T) {
	each(func(tries int, x api.Try) {
		if got := Left(tries, x); got != longest(tries, x) {
			t.Errorf("Left(%d, %v) = %d; want %d", tries, x, got, longest(tries, x))
		}
	})
}

// P11.3: whatever happens to a job, it is leased at most tries + 1 times, Used counts these times, and Left goes down with each Step to at least 0; a worker that always fails reaches the bound.
func TestLeases(t *testing.T) {
	r := rand.New(rand.NewSource(11))
	for tries := range api.MaxTries + 1 {
		for range 300 {
			x, leased := of(api.Waiting, 0), 0
			for range 200 {
				next, ok := Step(tries, x, whats[r.Intn(6)])
				if !ok {
					continue
				}
				if next.State == api.Leased {
					leased++
				}
				if next.Used != leased || leased > tries+1 || !Good(tries, next) || Left(tries, next) >= Left(tries, x) {
					t.Fatalf("with %d retries, %v becomes %v, leased %d times", tries, x, next, leased)
				}
				x = next
			}
		}
		var fails []int
		for range tries + 5 {
			fails = append(fails, api.Fetched, api.Failed, api.Rested)
		}
		skipped := len(fails) - (3*tries + 2)
		if got, n := Run(tries, of(api.Waiting, 0), fails...); got != of(api.Dead, tries+1) || n != skipped {
			t.Errorf("with %d retries, a job that always fails is %v, %d skipped; want %d", tries, got, n, skipped)
		}
	}
}
