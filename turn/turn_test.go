package turn

import (
	"math"
	"math/rand"
	"slices"
	"testing"

	"remontoir/api"
)

// of is a waiting job.
func of(id, class, came int) api.Wait { return api.Wait{Id: id, Class: class, Came: came} }

// agings are inside and outside of the range, its ends among them.
var agings = []int{math.MinInt, -1, 0, 1, 2, 3, 7, 999, api.MaxAging, api.MaxAging + 1, 1<<32 + 1, math.MaxInt}

// turnOf takes the turn from the document's words: as many fetches later as a class is from the first one, aging times each.
func turnOf(aging int, w api.Wait) int {
	if !slices.Contains([]int{0, 1, 2, 3, 4, 5, 6, 7}, w.Class) || w.Came < 0 || w.Came > 1<<40 || aging < 1 || aging > 1000 {
		return 0
	}
	turn := w.Came
	for range w.Class {
		turn += aging
	}
	return turn
}

// before says by the document's words whether x is Less than y.
func before(aging int, x, y api.Wait) bool {
	a, b := turnOf(aging, x), turnOf(aging, y)
	return a < b || a == b && x.Id < y.Id
}

// first looks for the first job of l that none is Less than.
func first(aging int, l []api.Wait) int {
	return slices.IndexFunc(l, func(w api.Wait) bool { return ahead(aging, w, l) == 0 })
}

// ahead counts the jobs of l that are Less than w.
func ahead(aging int, w api.Wait, l []api.Wait) int {
	return len(slices.DeleteFunc(slices.Clone(l), func(x api.Wait) bool { return !before(aging, x, w) }))
}

// roomy returns a copy of l with room behind it, and a check that neither l nor the room was written to.
func roomy(t *testing.T, l []api.Wait) ([]api.Wait, func()) {
	room := slices.Concat(l, []api.Wait{of(-901, 0, 0), of(-902, 0, 0)})
	was := slices.Clone(room)
	return room[:len(l)], func() {
		t.Helper()
		if !slices.Equal(room, was) {
			t.Fatalf("the argument %v with the room behind it became %v", was, room)
		}
	}
}

// P8.1: a waiting job is valid if its class and its Came are in their ranges, whatever its Id.
func TestGood(t *testing.T) {
	for _, x := range []struct {
		w    api.Wait
		good bool
	}{
		{api.Wait{}, true},
		{of(1, 2, 4), true},
		{of(math.MinInt, 0, 0), true},
		{of(math.MaxInt, 7, 1<<40), true},
		{of(1, 7, 0), true},
		{of(1, 8, 0), false},
		{of(1, -1, 0), false},
		{of(1, 1<<32, 0), false},
		{of(1, math.MinInt, 0), false},
		{of(1, math.MaxInt, 0), false},
		{of(1, 0, 1<<40-1), true},
		{of(1, 0, 1<<40), true},
		{of(1, 0, 1<<40+1), false},
		{of(1, 0, -1), false},
		{of(1, 0, math.MinInt), false},
		{of(1, 0, math.MaxInt), false},
		{of(1, -1, -1), false},
		{of(1, 8, 1<<40+1), false},
	} {
		if got := Good(x.w); got != x.good {
			t.Errorf("Good(%v) = %v", x.w, got)
		}
	}
}

// P8.1: the chapter's first example, the ends of the ranges, and arguments outside of them.
func TestTurn(t *testing.T) {
	for _, x := range []struct {
		aging int
		w     api.Wait
		turn  int
	}{
		{3, of(1, 2, 4), 10},
		{3, of(9, 2, 4), 10},
		{3, of(1, 0, 11), 11},
		{1, of(1, 7, 0), 7},
		{1000, of(1, 1, 0), 1000},
		{1000, of(1, 7, 1<<40), 1<<40 + 7000},
		{1, of(1, 0, 1<<40), 1 << 40},
		{5, of(math.MinInt, 3, 1), 16},
		{5, api.Wait{}, 0},
		{0, of(1, 2, 4), 0},
		{-1, of(1, 2, 4), 0},
		{1001, of(1, 2, 4), 0},
		{1001, of(1, 0, 4), 0},
		{0, of(1, 0, 4), 0},
		{math.MinInt, of(1, 2, 4), 0},
		{math.MaxInt, of(1, 2, 4), 0},
		{1<<32 + 3, of(1, 2, 4), 0},
		{3, of(1, 8, 4), 0},
		{3, of(1, -1, 4), 0},
		{3, of(1, 2, -1), 0},
		{3, of(1, 0, 1<<40+1), 0},
		{3, of(1, math.MaxInt, math.MaxInt), 0},
		{3, of(1, math.MinInt, math.MinInt), 0},
	} {
		if got := Turn(x.aging, x.w); got != x.turn {
			t.Errorf("Turn(%d, %v) = %d; want %d", x.aging, x.w, got, x.turn)
		}
	}
	for _, aging := range agings {
		for class := -2; class <= 9; class++ {
			for _, came := range []int{math.MinInt, -1, 0, 1, 12, 1<<40 - 1, 1 << 40, 1<<40 + 1, math.MaxInt} {
				if w := of(3, class, came); Turn(aging, w) != turnOf(aging, w) {
					t.Errorf("Turn(%d, %v) = %d; want %d", aging, w, Turn(aging, w), turnOf(aging, w))
				}
			}
		}
	}
}

// P8.1: the chapter's second example, equal turns, and jobs or an aging that have the turn 0 because they are not valid.
func TestLess(t *testing.T) {
	for _, x := range []struct {
		aging      int
		x, y       api.Wait
		less, more bool
	}{
		{3, of(1, 2, 4), of(2, 0, 11), true, false},
		{3, of(2, 2, 4), of(1, 0, 11), true, false},
		{3, of(1, 2, 4), of(2, 0, 9), false, true},
		{3, of(2, 2, 4), of(1, 0, 9), false, true},
		{3, of(1, 2, 4), of(2, 0, 10), true, false},
		{3, of(2, 2, 4), of(1, 0, 10), false, true},
		{3, of(1, 2, 4), of(1, 0, 10), false, false},
		{3, of(1, 2, 4), of(1, 2, 4), false, false},
		{2, of(math.MinInt, 0, 5), of(math.MaxInt, 0, 5), true, false},
		{2, of(-1, 0, 5), of(0, 0, 5), true, false},
		{2, of(1, 0, 5), of(1<<32+1, 0, 5), true, false},
		{1, of(2, 7, 0), of(1, 0, 8), true, false},
		{1000, of(2, 7, 0), of(1, 0, 6999), false, true},
		{1000, of(2, 7, 0), of(1, 0, 7001), true, false},
		{1, of(2, 0, 1<<40-1), of(1, 0, 1<<40), true, false},
		{0, of(1, 7, 99), of(2, 0, 0), true, false},
		{1001, of(1, 7, 99), of(2, 0, 0), true, false},
		{-1, of(3, 0, 0), of(2, 7, 99), false, true},
		{3, of(9, 8, 4), of(1, 0, 1), true, false},
		{3, of(9, -1, 4), of(1, 0, 1), true, false},
		{3, of(9, 8, 4), of(1, 0, 0), false, true},
		{3, of(9, 0, 1<<40+1), of(1, 0, 1), true, false},
		{3, of(1, 0, math.MaxInt), of(2, 9, -5), true, false},
		{3, of(1, 8, 5), of(1, 0, 0), false, false},
	} {
		if less, more := Less(x.aging, x.x, x.y), Less(x.aging, x.y, x.x); less != x.less || more != x.more {
			t.Errorf("Less(%d) of %v and %v: %v, and turned round %v; want %v, %v", x.aging, x.x, x.y, less, more, x.less, x.more)
		}
	}
}

// P8.2: the first of the jobs whose turn and Id are least, and nothing to choose from.
func TestFirst(t *testing.T) {
	l := []api.Wait{of(5, 7, 0), of(3, 2, 10), of(9, 0, 14), of(4, 0, 14), of(4, 2, 10), of(4, 1, 12)}
	for _, x := range []struct {
		aging int
		l     []api.Wait
		first int
	}{
		{2, nil, -1},
		{2, []api.Wait{}, -1},
		{0, nil, -1},
		{math.MaxInt, nil, -1},
		{2, l[:1], 0},
		{2, []api.Wait{of(1, 8, -1)}, 0},
		{1, l, 0},
		{2, l, 1},
		{3, l, 3},
		{2, l[2:], 1},
		{2, l[3:], 0},
		{0, l, 1},
		{1001, l, 1},
		{2, []api.Wait{of(4, 0, 14), of(4, 2, 10), of(4, 0, 14)}, 0},
		{2, []api.Wait{of(5, 0, 14), of(4, 2, 10), of(4, 0, 14)}, 1},
		{2, []api.Wait{of(5, 0, 14), of(6, 0, 13), of(7, 0, 12)}, 2},
		{2, []api.Wait{of(1, 0, 1), of(2, 8, 1)}, 1},
		{2, []api.Wait{of(1, 0, 0), of(2, 8, 1)}, 0},
	} {
		if got := First(x.aging, x.l...); got != x.first {
			t.Errorf("First(%d, %v) = %d; want %d", x.aging, x.l, got, x.first)
		}
	}
	if got := First(2); got != -1 {
		t.Errorf("First of nothing = %d", got)
	}
}

// P8.2: how many are Less than a job that need not be valid nor be in the list.
func TestAhead(t *testing.T) {
	l := []api.Wait{of(5, 7, 0), of(3, 2, 10), of(9, 0, 14), of(4, 0, 14), of(4, 2, 10), of(4, 1, 12)}
	for _, x := range []struct {
		aging int
		w     api.Wait
		n     int
	}{
		{2, of(3, 0, 14), 0},
		{2, of(4, 0, 14), 1},
		{2, of(5, 0, 14), 4},
		{2, of(9, 0, 14), 5},
		{2, of(10, 0, 14), 6},
		{2, of(0, 0, 15), 6},
		{2, of(99, 0, 13), 0},
		{2, of(99, 8, 14), 0},
		{0, of(4, 0, 0), 1},
		{0, of(5, 7, 0), 4},
		{math.MinInt, of(math.MaxInt, 0, 0), 6},
		{math.MaxInt, of(math.MinInt, 7, 7), 0},
	} {
		if got := Ahead(x.aging, x.w, l...); got != x.n {
			t.Errorf("Ahead(%d, %v, %v) = %d; want %d", x.aging, x.w, l, got, x.n)
		}
	}
	if got := Ahead(2, of(1, 7, 9)); got != 0 {
		t.Errorf("Ahead of nothing = %d", got)
	}
	if got := Ahead(2, of(2, 0, 5), of(1, 0, 5), of(1, 0, 5), of(2, 0, 5)); got != 2 {
		t.Errorf("Ahead with a job twice = %d", got)
	}
}

// P8.1, P8.2: all functions agree with the plain ones of this file on all lists of at most three of a few jobs, valid and not, and leave the list and the room behind it alone.
func TestAllShortLists(t *testing.T) {
	few := []api.Wait{of(1, 0, 0), of(0, 1, 0), of(2, 0, 1), of(-1, 1, 1), of(0, 2, 0), of(1, 0, 2), of(1, 7, 1000), of(3, 0, 8000), of(1, 8, 0), of(4, -1, 5), of(0, 1, -1), of(2, 3, 1<<40+1)}
	check := func(list ...api.Wait) {
		l, unchanged := roomy(t, list)
		for _, aging := range agings {
			if got := First(aging, l...); got != first(aging, l) {
				t.Fatalf("First(%d, %v) = %d; want %d", aging, l, got, first(aging, l))
			}
			for _, w := range few {
				if got := Ahead(aging, w, l...); got != ahead(aging, w, l) {
					t.Fatalf("Ahead(%d, %v, %v) = %d; want %d", aging, w, l, got, ahead(aging, w, l))
				}
			}
			if len(l) == 2 && Less(aging, l[0], l[1]) != before(aging, l[0], l[1]) {
				t.Fatalf("Less(%d, %v, %v) = %v", aging, l[0], l[1], Less(aging, l[0], l[1]))
			}
		}
		unchanged()
	}
	check()
	for _, x := range few {
		check(x)
		for _, y := range few {
			check(x, y)
			for _, z := range few {
				check(x, y, z)
			}
		}
	}
}

// P8.2: a job that First takes from a long list has none ahead of it, and those that are left have one less.
func TestTakenInOrder(t *testing.T) {
	random := rand.New(rand.NewSource(8))
	for range 50 {
		aging := 1 + random.Intn(30)
		var l []api.Wait
		for id := range random.Intn(60) {
			l = append(l, of(id, random.Intn(9), random.Intn(100)))
		}
		random.Shuffle(len(l), func(i, j int) { l[i], l[j] = l[j], l[i] })
		was := slices.Clone(l)
		for taken := range was {
			i := First(aging, l...)
			if n := Ahead(aging, l[i], l...); n != 0 {
				t.Fatalf("First(%d, %v) = %d, which has %d ahead of it", aging, l, i, n)
			}
			if n := Ahead(aging, l[i], was...); n != taken {
				t.Fatalf("%v is taken after %d others, and %d are ahead of it", l[i], taken, n)
			}
			l = slices.Delete(l, i, i+1)
		}
	}
}

// P8.2: aging times Classes plus room, both limited to their ranges.
func TestBound(t *testing.T) {
	for _, x := range []struct{ aging, room, bound int }{
		{1, 0, 8},
		{1, 1, 9},
		{2, 1, 17},
		{3, 5, 29},
		{999, 999, 8991},
		{1000, 0, 8000},
		{1000, 1000, 9000},
		{1001, 3, 8003},
		{2, 1001, 1016},
		{0, 5, 13},
		{-1, 5, 13},
		{4, -1, 32},
		{-9, -9, 8},
		{1001, 1001, 9000},
		{1<<32 + 2, 1 << 32, 9000},
		{math.MaxInt, math.MaxInt, 9000},
		{math.MinInt, math.MinInt, 8},
		{math.MinInt, math.MaxInt, 1008},
		{math.MaxInt, math.MinInt, 8000},
	} {
		if got := Bound(x.aging, x.room); got != x.bound {
			t.Errorf("Bound(%d, %d) = %d; want %d", x.aging, x.room, got, x.bound)
		}
	}
}

// hall is where jobs wait, at most room of them, and how many were taken.
type hall struct {
	aging, room, count int
	waiting            []api.Wait
}

// arrive lets a job in if there is room.
func (h *hall) arrive(id, class int) {
	if len(h.waiting) < h.room {
		h.waiting = append(h.waiting, of(id, class, h.count))
	}
}

// fetch takes the job whose turn it is.
func (h *hall) fetch() api.Wait {
	i := First(h.aging, h.waiting...)
	taken := h.waiting[i]
	h.waiting = slices.Delete(h.waiting, i, i+1)
	h.count++
	return taken
}

// delay returns which of the fetches from now on takes job 0 if ever new jobs of class 0 fill the room, each with an Id less than 0 or greater.
func (h *hall) delay(step int) int {
	id := 0
	for fetches := 1; ; fetches++ {
		for range h.room - len(h.waiting) {
			id += step
			h.arrive(id, 0)
		}
		if h.fetch().Id == 0 || fetches > Bound(h.aging, h.room) {
			return fetches
		}
	}
}

// P8.3: however many fetches there were, a job is taken within the bound while ever new ones of class 0 arrive. Those that arrive at its turn are still ahead of it if their Ids are less.
func TestTakenWithinBound(t *testing.T) {
	for _, count := range []int{0, 5, 1<<40 - 20000} {
		for _, aging := range []int{1, 2, 3, 10, 40} {
			for _, room := range []int{1, 2, 3, 9, 30} {
				for class := range api.Classes {
					for _, step := range []int{-1, 1} {
						h := &hall{aging: aging, room: room, count: count}
						h.arrive(0, class)
						want := 1
						if turn := aging * class; room > 1 && step < 0 {
							want = turn + room
						} else if room > 1 && turn > 0 {
							want = turn - 1 + room
						}
						got := h.delay(step)
						if got > Bound(aging, room) || got != want {
							t.Errorf("aging %d, room %d, class %d, from %d on, Ids by %d: taken by fetch %d; want %d, and the bound is %d", aging, room, class, count, step, got, want, Bound(aging, room))
						}
					}
				}
			}
		}
	}
	h := &hall{aging: api.MaxAging, room: 100}
	h.arrive(0, api.Classes-1)
	if got := h.delay(-1); got != 7100 {
		t.Errorf("with the greatest aging: taken by fetch %d", got)
	}
}

// P8.3: whatever arrives and leaves, no job ever waits for more fetches than the bound.
func TestNoneWaitsBeyondBound(t *testing.T) {
	random := rand.New(rand.NewSource(83))
	for range 200 {
		h := &hall{aging: 1 + random.Intn(4), room: 1 + random.Intn(6)}
		bound := Bound(h.aging, h.room)
		late := random.Intn(api.Classes)
		for op := range 1000 {
			switch n := random.Intn(20); {
			case n == 0 && len(h.waiting) > 0:
				i := random.Intn(len(h.waiting))
				h.waiting = slices.Delete(h.waiting, i, i+1)
			case n < 12:
				// Ids that fall let those that come later go ahead at one turn.
				h.arrive(-op, max(0, random.Intn(api.Classes)-late))
			case len(h.waiting) > 0:
				if w := h.fetch(); h.count-w.Came > bound {
					t.Fatalf("aging %d, room %d: %v is taken by fetch %d; the bound is %d", h.aging, h.room, w, h.count-w.Came, bound)
				}
			}
			for _, w := range h.waiting {
				if h.count-w.Came >= bound {
					t.Fatalf("aging %d, room %d: %v still waits after %d fetches", h.aging, h.room, w, h.count-w.Came)
				}
			}
		}
	}
}
