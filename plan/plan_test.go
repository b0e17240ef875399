package plan

import (
	"math"
	"math/rand"
	"slices"
	"testing"

	"remontoir/api"
	"remontoir/wheel"
)

const most = math.MaxUint64

// less says by the document's words whether x comes before y.
func less(x, y api.Due) bool {
	return x.At < y.At || x.At == y.At && x.Id < y.Id
}

// good holds every timer against every later one.
func good(l []api.Due) bool {
	for i, x := range l {
		for _, y := range l[i+1:] {
			if x.Id == y.Id || less(y, x) {
				return false
			}
		}
	}
	return true
}

// has reports whether l contains the Id.
func has(l []api.Due, id int) bool {
	for _, d := range l {
		if d.Id == id {
			return true
		}
	}
	return false
}

// insert puts d between what comes before it and what does not.
func insert(l []api.Due, d api.Due) ([]api.Due, bool) {
	if !good(l) || has(l, d.Id) {
		return nil, false
	}
	var before, after []api.Due
	for _, x := range l {
		if less(x, d) {
			before = append(before, x)
		} else {
			after = append(after, x)
		}
	}
	return slices.Concat(before, []api.Due{d}, after), true
}

// cancel keeps the timers with another Id.
func cancel(l []api.Due, id int) ([]api.Due, bool) {
	if !good(l) || !has(l, id) {
		return nil, false
	}
	var kept []api.Due
	for _, d := range l {
		if d.Id != id {
			kept = append(kept, d)
		}
	}
	return kept, true
}

// sorted takes the least timer that is left again and again.
func sorted(l []api.Due) []api.Due {
	var list []api.Due
	left := slices.Clone(l)
	for len(left) > 0 {
		least := 0
		for i := range left {
			if less(left[i], left[least]) {
				least = i
			}
		}
		list = append(list, left[least])
		left = slices.Delete(left, least, least+1)
	}
	return list
}

// reached keeps the timers whose time is not after to, or with that turned round the others.
func reached(l []api.Due, to uint64, yes bool) []api.Due {
	return slices.DeleteFunc(slices.Clone(l), func(d api.Due) bool { return yes == (d.At > to) })
}

// roomy returns a copy of l with room behind it, and a check that neither l nor the room was written to.
func roomy(t *testing.T, l []api.Due) ([]api.Due, func()) {
	room := slices.Concat(l, []api.Due{{Id: 901, At: 1}, {Id: 902, At: 2}, {Id: 903, At: 3}})
	was := slices.Clone(room)
	return room[:len(l)], func() {
		t.Helper()
		if !slices.Equal(room, was) {
			t.Fatalf("the argument %v with the room behind it became %v", was, room)
		}
	}
}

// spoil overwrites a result with all its spare capacity.
func spoil(list []api.Due) {
	list = list[:cap(list)]
	for i := range list {
		list[i] = api.Due{Id: -77, At: 77}
	}
}

// lists calls f with every list of at most n of the timers.
func lists(timers []api.Due, n int, f func(l []api.Due)) {
	var extend func(l []api.Due)
	extend = func(l []api.Due) {
		f(l)
		if len(l) == n {
			return
		}
		for _, d := range timers {
			extend(append(slices.Clone(l), d))
		}
	}
	extend(nil)
}

// few are timers with equal and different Ids and times, the least and the greatest time among them.
var few = []api.Due{{Id: -1, At: 0}, {Id: 1, At: 0}, {Id: 0, At: 1}, {Id: 1, At: 1}, {Id: -1, At: 2}, {Id: 0, At: 2}, {Id: -1, At: most}, {Id: 1, At: most}}

// P7.1: a plan is valid if it is sorted by At and then by Id and no Id occurs twice.
func TestGood(t *testing.T) {
	for _, x := range []struct {
		name string
		l    []api.Due
		good bool
	}{
		{"nil", nil, true},
		{"empty", []api.Due{}, true},
		{"one", []api.Due{{Id: 1, At: 5}}, true},
		{"by At", []api.Due{{Id: 3, At: 5}, {Id: 1, At: 7}, {Id: 2, At: 9}}, true},
		{"not by At", []api.Due{{Id: 1, At: 7}, {Id: 2, At: 5}}, false},
		{"by Id", []api.Due{{Id: -2, At: 5}, {Id: 0, At: 5}, {Id: 2, At: 5}}, true},
		{"not by Id", []api.Due{{Id: 2, At: 5}, {Id: 1, At: 5}}, false},
		{"the last ones not sorted", []api.Due{{Id: 1, At: 1}, {Id: 2, At: 2}, {Id: 4, At: 3}, {Id: 3, At: 3}}, false},
		{"an Id twice at one time", []api.Due{{Id: 1, At: 5}, {Id: 1, At: 5}}, false},
		{"an Id twice at two times", []api.Due{{Id: 1, At: 5}, {Id: 1, At: 6}}, false},
		{"an Id twice, apart", []api.Due{{Id: 1, At: 5}, {Id: 2, At: 6}, {Id: 3, At: 7}, {Id: 1, At: 8}}, false},
		{"the zero timer", []api.Due{{}}, true},
		{"extreme numbers", []api.Due{{Id: math.MinInt, At: 0}, {Id: math.MinInt + 1, At: most}, {Id: math.MaxInt, At: most}}, true},
		{"times whose upper bit differs", []api.Due{{Id: 1, At: 1 << 63}, {Id: 2, At: 1<<63 - 1}}, false},
		{"Ids of both signs", []api.Due{{Id: math.MaxInt, At: 0}, {Id: math.MinInt, At: 0}}, false},
		{"Ids with the same low bits", []api.Due{{Id: 1, At: 0}, {Id: 1<<32 + 1, At: 0}}, true},
	} {
		if got := Good(x.l); got != x.good {
			t.Errorf("%s: Good(%v) = %v", x.name, x.l, got)
		}
	}
}

// P7.1: the chapter's first example, and the places before, between and behind the timers of a plan.
func TestInsert(t *testing.T) {
	l := []api.Due{{Id: 1, At: 5}, {Id: 3, At: 7}}
	for _, x := range []struct {
		d     api.Due
		index int
	}{
		{api.Due{Id: 2, At: 5}, 1},
		{api.Due{Id: 0, At: 5}, 0},
		{api.Due{Id: 9, At: 4}, 0},
		{api.Due{Id: 9, At: 0}, 0},
		{api.Due{Id: 9, At: 6}, 1},
		{api.Due{Id: -9, At: 6}, 1},
		{api.Due{Id: 2, At: 7}, 1},
		{api.Due{Id: 4, At: 7}, 2},
		{api.Due{Id: math.MinInt, At: 7}, 1},
		{api.Due{Id: math.MaxInt, At: 7}, 2},
		{api.Due{Id: 0, At: most}, 2},
	} {
		got, ok := Insert(l, x.d)
		if want := slices.Insert(slices.Clone(l), x.index, x.d); !ok || !slices.Equal(got, want) {
			t.Errorf("Insert(%v, %v) = %v, %v; want %v, true", l, x.d, got, ok, want)
		}
	}
	for _, l := range [][]api.Due{nil, {}} {
		if got, ok := Insert(l, api.Due{}); !ok || !slices.Equal(got, []api.Due{{}}) {
			t.Errorf("Insert(%v, a zero timer) = %v, %v", l, got, ok)
		}
	}
}

// P7.1: there is no inserting an Id that the plan contains, whatever its time, nor into a list that is not valid, even where the inserted timer would have its place.
func TestInsertRefused(t *testing.T) {
	for _, x := range []struct {
		l []api.Due
		d api.Due
	}{
		{[]api.Due{{Id: 1, At: 5}, {Id: 3, At: 7}}, api.Due{Id: 1, At: 5}},
		{[]api.Due{{Id: 1, At: 5}, {Id: 3, At: 7}}, api.Due{Id: 3, At: 0}},
		{[]api.Due{{Id: 1, At: 5}, {Id: 3, At: 7}}, api.Due{Id: 1, At: most}},
		{[]api.Due{{Id: 0, At: 0}}, api.Due{}},
		{[]api.Due{{Id: 3, At: 7}, {Id: 1, At: 5}}, api.Due{Id: 2, At: 6}},
		{[]api.Due{{Id: 2, At: 5}, {Id: 1, At: 5}}, api.Due{Id: 3, At: 6}},
		{[]api.Due{{Id: 1, At: 5}, {Id: 1, At: 7}}, api.Due{Id: 2, At: 9}},
		{[]api.Due{{Id: 1, At: 5}, {Id: 1, At: 5}}, api.Due{Id: 2, At: 1}},
	} {
		if got, ok := Insert(x.l, x.d); len(got) > 0 || ok {
			t.Errorf("Insert(%v, %v) = %v, %v", x.l, x.d, got, ok)
		}
	}
}

// P7.1: Cancel leaves out the timer wherever it stands.
func TestCancel(t *testing.T) {
	l := []api.Due{{Id: 4, At: 5}, {Id: -2, At: 6}, {Id: 0, At: 6}, {Id: 1, At: most}}
	for index, d := range l {
		got, ok := Cancel(l, d.Id)
		if want := slices.Delete(slices.Clone(l), index, index+1); !ok || !slices.Equal(got, want) {
			t.Errorf("Cancel(%v, %d) = %v, %v; want %v, true", l, d.Id, got, ok, want)
		}
	}
	if got, ok := Cancel(l[:1], 4); !ok || len(got) > 0 {
		t.Errorf("Cancel of the only timer = %v, %v", got, ok)
	}
}

// P7.1: there is no cancelling an Id that the plan does not contain, nor in a list that is not valid.
func TestCancelRefused(t *testing.T) {
	valid := []api.Due{{Id: 1, At: 5}, {Id: 3, At: 7}}
	for _, x := range []struct {
		l  []api.Due
		id int
	}{
		{nil, 0},
		{[]api.Due{}, 1},
		{valid, 0},
		{valid, 2},
		{valid, 5},
		{valid, -1},
		{valid, 1<<32 + 1},
		{valid, math.MinInt},
		{valid, math.MaxInt},
		{[]api.Due{{Id: 3, At: 7}, {Id: 1, At: 5}}, 1},
		{[]api.Due{{Id: 2, At: 5}, {Id: 1, At: 5}}, 2},
		{[]api.Due{{Id: 1, At: 5}, {Id: 1, At: 7}}, 1},
		{[]api.Due{{Id: 1, At: 5}, {Id: 1, At: 5}}, 1},
		{[]api.Due{{Id: 1, At: 5}, {Id: 2, At: 6}, {Id: 1, At: 7}}, 2},
	} {
		if got, ok := Cancel(x.l, x.id); len(got) > 0 || ok {
			t.Errorf("Cancel(%v, %d) = %v, %v", x.l, x.id, got, ok)
		}
	}
}

// P7.2: the chapter's second example, times around that of a timer, and lists that are no plan.
func TestSplit(t *testing.T) {
	l := []api.Due{{Id: 1, At: 5}, {Id: 2, At: 5}, {Id: 3, At: 7}}
	mixed := []api.Due{{Id: 3, At: 9}, {Id: 1, At: 2}, {Id: 1, At: 2}, {Id: 4, At: most}, {Id: 3, At: 8}, {Id: 0, At: 0}}
	for _, x := range []struct {
		l         []api.Due
		to        uint64
		due, rest []api.Due
	}{
		{l, 5, l[:2], l[2:]},
		{l, 0, nil, l},
		{l, 4, nil, l},
		{l, 6, l[:2], l[2:]},
		{l, 7, l, nil},
		{l, most, l, nil},
		{nil, 5, nil, nil},
		{[]api.Due{}, most, nil, nil},
		{[]api.Due{{}}, 0, []api.Due{{}}, nil},
		{mixed, 7, []api.Due{mixed[1], mixed[2], mixed[5]}, []api.Due{mixed[0], mixed[3], mixed[4]}},
		{mixed, 8, []api.Due{mixed[1], mixed[2], mixed[4], mixed[5]}, []api.Due{mixed[0], mixed[3]}},
		{mixed, 0, mixed[5:], mixed[:5]},
		{mixed, most - 1, []api.Due{mixed[0], mixed[1], mixed[2], mixed[4], mixed[5]}, mixed[3:4]},
		{mixed, most, mixed, nil},
	} {
		due, rest := Split(x.l, x.to)
		if !slices.Equal(due, x.due) || !slices.Equal(rest, x.rest) {
			t.Errorf("Split(%v, %d) = %v, %v; want %v, %v", x.l, x.to, due, rest, x.due, x.rest)
		}
	}
}

// P7.2: Sort goes by At and then by Id and keeps equal timers.
func TestSort(t *testing.T) {
	for _, x := range []struct{ l, want []api.Due }{
		{nil, nil},
		{[]api.Due{{Id: 1, At: 5}}, []api.Due{{Id: 1, At: 5}}},
		{[]api.Due{{Id: 1, At: 7}, {Id: 2, At: 5}}, []api.Due{{Id: 2, At: 5}, {Id: 1, At: 7}}},
		{[]api.Due{{Id: 2, At: 5}, {Id: -1, At: 5}, {Id: 1, At: 5}}, []api.Due{{Id: -1, At: 5}, {Id: 1, At: 5}, {Id: 2, At: 5}}},
		{[]api.Due{{Id: 1, At: 9}, {Id: 2, At: 3}, {Id: 1, At: 9}, {Id: 1, At: 3}, {Id: 2, At: 3}}, []api.Due{{Id: 1, At: 3}, {Id: 2, At: 3}, {Id: 2, At: 3}, {Id: 1, At: 9}, {Id: 1, At: 9}}},
		{[]api.Due{{Id: math.MaxInt, At: most}, {Id: math.MinInt, At: most}, {Id: 0, At: 1 << 63}, {Id: 0, At: 1<<63 - 1}}, []api.Due{{Id: 0, At: 1<<63 - 1}, {Id: 0, At: 1 << 63}, {Id: math.MinInt, At: most}, {Id: math.MaxInt, At: most}}},
	} {
		if got := Sort(x.l...); !slices.Equal(got, x.want) {
			t.Errorf("Sort(%v) = %v; want %v", x.l, got, x.want)
		}
	}
	if got := Sort(); len(got) > 0 {
		t.Errorf("Sort() = %v", got)
	}
}

// P7.1, P7.2: all functions agree with the plain ones of this file on all lists of at most four of a few timers, valid and not, and leave their argument and the room behind it alone.
func TestAllShortLists(t *testing.T) {
	valid := 0
	lists(few, 4, func(list []api.Due) {
		l, check := roomy(t, list)
		if Good(l) != good(l) {
			t.Fatalf("Good(%v) = %v", l, Good(l))
		}
		if good(l) {
			valid++
		}
		for _, d := range append([]api.Due{{Id: 0, At: 0}, {Id: 2, At: 1}, {Id: 2, At: most}, {Id: -2, At: 0}, {Id: -2, At: 2}}, few...) {
			got, ok := Insert(l, d)
			if want, is := insert(l, d); !slices.Equal(got, want) || ok != is {
				t.Fatalf("Insert(%v, %v) = %v, %v; want %v, %v", l, d, got, ok, want, is)
			}
		}
		for id := -2; id <= 2; id++ {
			got, ok := Cancel(l, id)
			if want, is := cancel(l, id); !slices.Equal(got, want) || ok != is {
				t.Fatalf("Cancel(%v, %d) = %v, %v; want %v, %v", l, id, got, ok, want, is)
			}
		}
		for _, to := range []uint64{0, 1, 2, 3, most - 1, most} {
			due, rest := Split(l, to)
			if !slices.Equal(due, reached(l, to, true)) || !slices.Equal(rest, reached(l, to, false)) {
				t.Fatalf("Split(%v, %d) = %v, %v", l, to, due, rest)
			}
		}
		if got := Sort(l...); !slices.Equal(got, sorted(l)) {
			t.Fatalf("Sort(%v) = %v; want %v", l, got, sorted(l))
		}
		check()
	})
	if valid < 10 {
		t.Errorf("only %d of the lists are valid", valid)
	}
}

// P7.1, P7.2: long lists, whose Ids are repeated in some and whose order is disturbed at one place in others.
func TestLongLists(t *testing.T) {
	random := rand.New(rand.NewSource(7))
	for range 300 {
		var l []api.Due
		for id := range random.Intn(200) {
			l = append(l, api.Due{Id: id - 50, At: uint64(random.Intn(90))})
		}
		random.Shuffle(len(l), func(i, j int) { l[i], l[j] = l[j], l[i] })
		sort := Sort(l...)
		if !slices.Equal(sort, sorted(l)) {
			t.Fatalf("Sort(%v) = %v", l, sort)
		}
		if len(sort) > 1 {
			i, j := random.Intn(len(sort)), random.Intn(len(sort))
			switch random.Intn(3) {
			case 0:
				sort[i], sort[j] = sort[j], sort[i]
			case 1:
				sort[i].Id = sort[j].Id
			}
		}
		if Good(sort) != good(sort) {
			t.Fatalf("Good(%v) = %v", sort, Good(sort))
		}
		d := api.Due{Id: random.Intn(400) - 200, At: uint64(random.Intn(100))}
		got, ok := Insert(sort, d)
		if want, is := insert(sort, d); !slices.Equal(got, want) || ok != is {
			t.Fatalf("Insert(%v, %v) = %v, %v", sort, d, got, ok)
		}
		got, ok = Cancel(sort, d.Id)
		if want, is := cancel(sort, d.Id); !slices.Equal(got, want) || ok != is {
			t.Fatalf("Cancel(%v, %d) = %v, %v", sort, d.Id, got, ok)
		}
	}
}

// P7.1, P7.2: results are new memory, their spare capacity too: to overwrite one changes neither the argument nor another result. The lengths are many, so that some results have spare capacity however lists grow.
func TestResultsAreNew(t *testing.T) {
	for n := range 20 {
		var list []api.Due
		for id := range n {
			list = append(list, api.Due{Id: id, At: uint64(id)})
		}
		for index := range n + 1 {
			l, check := roomy(t, list)
			inserted, _ := Insert(l, api.Due{Id: -1, At: uint64(index)})
			cancelled, _ := Cancel(l, index)
			due, rest := Split(l, uint64(index))
			all := [][]api.Due{inserted, cancelled, due, rest, Sort(l...)}
			for i, result := range all {
				was := make([][]api.Due, len(all))
				for j := range all {
					was[j] = slices.Clone(all[j])
				}
				spoil(result)
				check()
				for j := range all {
					if j != i && !slices.Equal(all[j], was[j]) {
						t.Fatalf("the results %d and %d of a list of %d share memory", i, j, n)
					}
				}
			}
		}
	}
}

// both is a wheel and a plan that are given the same timers.
type both struct {
	w *wheel.Wheel
	l []api.Due
}

// insert hands the timer to both, if the wheel takes its time: a plan has no Now that it could lie before.
func (b *both) insert(t *testing.T, d api.Due) {
	t.Helper()
	e := b.w.Insert(d.Id, d.At)
	if e == api.ErrPast {
		return
	}
	l, ok := Insert(b.l, d)
	if ok != (e == api.OK) {
		t.Fatalf("the plan %v and the wheel differ on inserting %v: %v, %v", b.l, d, ok, e)
	}
	if ok {
		b.l = l
	}
}

func (b *both) cancel(t *testing.T, id int) {
	t.Helper()
	_, is := b.w.Cancel(id)
	l, ok := Cancel(b.l, id)
	if ok != is {
		t.Fatalf("the plan %v and the wheel differ on cancelling %d: %v, %v", b.l, id, ok, is)
	}
	if ok {
		b.l = l
	}
}

func (b *both) pop(t *testing.T, to uint64) {
	t.Helper()
	due, rest := Split(b.l, to)
	d, ok := b.w.Pop(to)
	if ok != (len(due) > 0) || ok && d != due[0] {
		t.Fatalf("Pop(%d) = %v, %v; Split of the plan has %v", to, d, ok, due)
	}
	if ok {
		b.l = slices.Concat(due[1:], rest)
	}
}

func (b *both) advance(t *testing.T, n uint64) {
	t.Helper()
	due, rest := Split(b.l, b.w.Now()+n)
	list, e := b.w.Advance(n)
	if e != api.OK || !slices.Equal(list, due) {
		t.Fatalf("Advance(%d) = %v, %v; Split of the plan has %v", n, list, e, due)
	}
	b.l = rest
}

// P7.3: a wheel and a plan with the same timers agree on what is due, through timers of every level and beyond the rings, and two timers at one time.
func TestWheelAndPlan(t *testing.T) {
	b := &both{w: wheel.New(0)}
	for id := range 64 {
		b.insert(t, api.Due{Id: 100 - id, At: 1 << id})
		b.insert(t, api.Due{Id: id - 100, At: 1 << id})
	}
	b.insert(t, api.Due{Id: 1000, At: most})
	b.insert(t, api.Due{Id: 1000, At: 5})
	b.cancel(t, 90)
	b.cancel(t, 90)
	b.pop(t, 0)
	b.pop(t, 1)
	b.advance(t, 0)
	b.advance(t, 7)
	b.pop(t, 1<<40)
	for range 20 {
		b.advance(t, b.w.Now()+1)
	}
	b.pop(t, 1<<63)
	b.advance(t, most-b.w.Now())
	if len(b.l) > 0 || b.w.Len() > 0 {
		t.Errorf("%v and %d timers of the wheel are left", b.l, b.w.Len())
	}
}

// P7.3: they agree after every call of long random sequences, whose steps are of all sizes.
func TestWheelAndPlanAtRandom(t *testing.T) {
	random := rand.New(rand.NewSource(73))
	ahead := func() uint64 { return random.Uint64() >> (24 + random.Intn(40)) }
	for range 60 {
		b := &both{w: wheel.New(ahead())}
		for range 300 {
			switch random.Intn(8) {
			case 0:
				b.cancel(t, random.Intn(60))
			case 1:
				b.pop(t, b.w.Now()+ahead())
			case 2:
				b.advance(t, ahead()>>random.Intn(20))
			case 3:
				if len(b.l) > 0 {
					b.insert(t, api.Due{Id: random.Intn(60), At: b.l[random.Intn(len(b.l))].At})
				}
			default:
				b.insert(t, api.Due{Id: random.Intn(60), At: b.w.Now() + ahead()})
			}
			if !Good(b.l) || len(b.l) != b.w.Len() {
				t.Fatalf("%v is not the plan of the wheel's %d timers", b.l, b.w.Len())
			}
		}
	}
}
