package queue

import (
	"math"
	"math/rand"
	"slices"
	"testing"

	"remontoir/api"
	"remontoir/turn"
)

// of is a waiting job.
func of(id, class, came int) api.Wait { return api.Wait{Id: id, Class: class, Came: came} }

// notClasses are numbers below and above the classes. Some of them are a class if only their lowest 3, 8 or 32 bits are read.
var notClasses = []int{math.MinInt, -1 << 32, -8, -1, 8, 9, 16, 256, 1 << 32, 1<<32 + 3, math.MaxInt}

// ids are those of jobs, the least and the greatest and some with the same low bits among them.
var ids = []int{0, 1, -1, 2, 7, 256, 1<<32 + 1, math.MinInt, math.MaxInt}

// model is what a queue should be: its jobs in no order.
type model struct {
	aging, room, count int
	waiting            []api.Wait
}

func (m *model) has(id int) bool {
	return slices.ContainsFunc(m.waiting, func(w api.Wait) bool { return w.Id == id })
}

func (m *model) put(id, class int) api.Errno {
	switch {
	case slices.Contains(notClasses, class):
		return api.ErrArg
	case m.has(id):
		return api.ErrTwice
	case len(m.waiting) == m.room:
		return api.ErrFull
	}
	m.waiting = append(m.waiting, of(id, class, m.count))
	return api.OK
}

func (m *model) take() (api.Wait, api.Errno) {
	i := turn.First(m.aging, m.waiting...)
	if i < 0 {
		return api.Wait{}, api.ErrEmpty
	}
	w := m.waiting[i]
	m.waiting = slices.Delete(m.waiting, i, i+1)
	m.count++
	return w, api.OK
}

func (m *model) drop(id int) bool {
	has := m.has(id)
	m.waiting = slices.DeleteFunc(m.waiting, func(w api.Wait) bool { return w.Id == id })
	return has
}

// list takes all jobs from a copy of the model.
func (m *model) list() []api.Wait {
	rest := *m
	rest.waiting = slices.Clone(m.waiting)
	var list []api.Wait
	for w, e := rest.take(); e == api.OK; w, e = rest.take() {
		list = append(list, w)
	}
	return list
}

// same fails unless the queue is as the model says, by everything that it tells of itself.
func same(t *testing.T, q *Queue, m *model) {
	t.Helper()
	if q.Len() != len(m.waiting) || q.Count() != m.count {
		t.Fatalf("Len() = %d, Count() = %d; want %d, %d", q.Len(), q.Count(), len(m.waiting), m.count)
	}
	if l, want := q.List(), m.list(); !slices.Equal(l, want) {
		t.Fatalf("List() = %v; want %v", l, want)
	}
}

// both is a queue and the model of it, which are given the same calls.
type both struct {
	q *Queue
	m *model
}

func newBoth(t *testing.T, aging, room int) both {
	t.Helper()
	q := New(aging, room)
	if q == nil {
		t.Fatalf("New(%d, %d) = nil", aging, room)
	}
	return both{q, &model{aging: aging, room: room}}
}

func (b both) put(t *testing.T, id, class int) {
	t.Helper()
	if e, want := b.q.Put(id, class), b.m.put(id, class); e != want {
		t.Fatalf("Put(%d, %d) = %v; want %v", id, class, e, want)
	}
	same(t, b.q, b.m)
}

func (b both) take(t *testing.T) {
	t.Helper()
	w, e := b.q.Take()
	if want, is := b.m.take(); w != want || e != is {
		t.Fatalf("Take() = %v, %v; want %v, %v", w, e, want, is)
	}
	same(t, b.q, b.m)
}

func (b both) drop(t *testing.T, id int) {
	t.Helper()
	if ok, want := b.q.Drop(id), b.m.drop(id); ok != want {
		t.Fatalf("Drop(%d) = %v; want %v", id, ok, want)
	}
	same(t, b.q, b.m)
}

// takes returns the jobs that Take returns until none is left.
func takes(t *testing.T, q *Queue) []api.Wait {
	t.Helper()
	var list []api.Wait
	for range q.Len() {
		w, e := q.Take()
		if e != api.OK {
			t.Fatalf("Take() = %v, %v after %v; Len was greater", w, e, list)
		}
		list = append(list, w)
	}
	if w, e := q.Take(); w != (api.Wait{}) || e != api.ErrEmpty {
		t.Fatalf("Take() = %v, %v of an empty queue", w, e)
	}
	return list
}

// P9.1: New returns an empty queue, or nil if one of its arguments is not in its range.
func TestNew(t *testing.T) {
	for _, x := range []struct {
		aging, room int
		ok          bool
	}{
		{1, 0, true},
		{1, 1, true},
		{2, 5, true},
		{1, 1000, true},
		{1000, 0, true},
		{1000, 1000, true},
		{0, 5, false},
		{-1, 5, false},
		{1001, 5, false},
		{5, -1, false},
		{5, 1001, false},
		{0, 0, false},
		{0, -1, false},
		{1001, 1001, false},
		{1<<32 + 1, 5, false},
		{5, 1 << 32, false},
		{math.MinInt, 5, false},
		{math.MaxInt, 5, false},
		{5, math.MinInt, false},
		{5, math.MaxInt, false},
	} {
		q := New(x.aging, x.room)
		if (q != nil) != x.ok {
			t.Errorf("New(%d, %d) is not nil: %v", x.aging, x.room, q != nil)
			continue
		}
		if !x.ok {
			continue
		}
		same(t, q, &model{aging: x.aging, room: x.room})
		if w, e := q.Take(); w != (api.Wait{}) || e != api.ErrEmpty {
			t.Errorf("New(%d, %d) is not empty: %v, %v", x.aging, x.room, w, e)
		}
	}
}

// P9.1, P9.2: the chapter's example. New jobs of class 0 that come at the turn of job 1 are behind it only if their Ids are greater.
func TestExample(t *testing.T) {
	for _, x := range []struct{ step, taken int }{{1, 15}, {-1, 16}} {
		q := New(2, 2)
		if q.Put(1, 7) != api.OK || q.Put(2, 0) != api.OK {
			t.Fatal("Put of a new job is not OK")
		}
		if l := q.List(); !slices.Equal(l, []api.Wait{of(2, 0, 0), of(1, 7, 0)}) {
			t.Fatalf("List() = %v", l)
		}
		if w, e := q.Take(); w != of(2, 0, 0) || e != api.OK {
			t.Fatalf("Take() = %v, %v; want job 2", w, e)
		}
		for n := 2; ; n++ {
			if e := q.Put(x.step*(n+1), 0); e != api.OK {
				t.Fatalf("Put = %v", e)
			}
			w, e := q.Take()
			if e != api.OK || q.Count() != n || n > x.taken {
				t.Fatalf("Take number %d = %v, %v; Count() = %d", n, w, e, q.Count())
			}
			if w.Id == 1 {
				if n != x.taken || w != of(1, 7, 0) {
					t.Errorf("Take number %d = %v; want that of number %d", n, w, x.taken)
				}
				break
			}
			if w != of(x.step*(n+1), 0, n-1) {
				t.Fatalf("Take number %d = %v", n, w)
			}
		}
	}
}

// P9.1: Put refuses what is no class, an Id that waits and one job too many, in this order, and none of the refusals has an effect.
func TestPut(t *testing.T) {
	q, m := New(3, 2), &model{aging: 3, room: 2}
	for _, x := range []struct {
		id, class int
		e         api.Errno
	}{
		{1, 8, api.ErrArg},
		{1, -1, api.ErrArg},
		{1, 7, api.OK},
		{1, 7, api.ErrTwice},
		{1, 0, api.ErrTwice},
		{1, 8, api.ErrArg},
		{2, 8, api.ErrArg},
		{1<<32 + 1, 0, api.OK},
		{2, 0, api.ErrFull},
		{0, 7, api.ErrFull},
		{1, 3, api.ErrTwice},
		{1<<32 + 1, 3, api.ErrTwice},
		{1, -1, api.ErrArg},
		{2, 8, api.ErrArg},
		{2, math.MinInt, api.ErrArg},
		{1, math.MaxInt, api.ErrArg},
	} {
		if e := q.Put(x.id, x.class); e != x.e {
			t.Errorf("Put(%d, %d) = %v; want %v", x.id, x.class, e, x.e)
		}
		if x.e == api.OK {
			m.put(x.id, x.class)
		}
		same(t, q, m)
	}
}

// P9.1: any Id and any class of the range will do, and nothing outside of it.
func TestPutAnyJob(t *testing.T) {
	for _, id := range ids {
		for class := range 8 {
			b := newBoth(t, 5, 1)
			b.put(t, id, class)
			if l := b.q.List(); !slices.Equal(l, []api.Wait{of(id, class, 0)}) {
				t.Errorf("List() = %v after Put(%d, %d)", l, id, class)
			}
			b.take(t)
		}
		for _, class := range notClasses {
			b := newBoth(t, 5, 1)
			if e := b.q.Put(id, class); e != api.ErrArg {
				t.Errorf("Put(%d, %d) = %v", id, class, e)
			}
			same(t, b.q, b.m)
		}
	}
}

// P9.1: without room there is no putting; a place that Take or Drop frees can be filled again, by the same Id too.
func TestRoom(t *testing.T) {
	none := New(3, 0)
	for _, x := range []struct {
		class int
		e     api.Errno
	}{{0, api.ErrFull}, {7, api.ErrFull}, {8, api.ErrArg}, {-1, api.ErrArg}} {
		if e := none.Put(1, x.class); e != x.e {
			t.Errorf("Put(1, %d) = %v without room; want %v", x.class, e, x.e)
		}
	}
	same(t, none, &model{aging: 3})
	b := newBoth(t, 3, 2)
	b.put(t, 1, 0)
	b.put(t, 2, 0)
	b.put(t, 3, 0)
	b.take(t)
	b.put(t, 1, 5)
	b.put(t, 3, 0)
	b.drop(t, 2)
	b.put(t, 2, 7)
	b.put(t, 3, 7)
	if l := b.q.List(); !slices.Equal(l, []api.Wait{of(1, 5, 1), of(2, 7, 1)}) {
		t.Errorf("List() = %v", l)
	}
}

// P9.1: the Came of a job is the Count when it is put: only a Take that returns a job increments it.
func TestCount(t *testing.T) {
	b := newBoth(t, 2, 9)
	b.take(t)
	b.put(t, 1, 3)
	b.put(t, 1, 3)
	b.put(t, 2, 9)
	b.drop(t, 1)
	b.drop(t, 1)
	b.take(t)
	b.put(t, 3, 0)
	if b.q.Count() != 0 {
		t.Errorf("Count() = %d before the first job was taken", b.q.Count())
	}
	for n := range 50 {
		if n%3 == 0 {
			b.put(t, 100+n, 7)
			b.drop(t, 100+n)
		}
		b.put(t, 4+n, n%8)
		b.take(t)
		if b.q.Count() != n+1 {
			t.Fatalf("Count() = %d after %d jobs were taken", b.q.Count(), n+1)
		}
	}
	b.take(t)
	b.take(t)
	if b.q.Count() != 51 {
		t.Errorf("Count() = %d at the end; want 51", b.q.Count())
	}
	b.put(t, 0, 4)
	if l := b.q.List(); !slices.Equal(l, []api.Wait{of(0, 4, 51)}) {
		t.Errorf("List() = %v", l)
	}
}

// P9.1, P9.2: jobs leave by their turns, at one turn by their Ids, whatever the order in which they came; List says so before.
func TestTake(t *testing.T) {
	b := newBoth(t, 3, 9)
	for _, id := range []int{1, 2, 3, 4, 5} {
		b.put(t, id, 0)
		b.take(t)
	}
	b.put(t, 9, 2)
	b.put(t, 8, 1)
	b.put(t, math.MinInt, 2)
	b.put(t, 0, 7)
	b.put(t, math.MaxInt, 0)
	b.take(t)
	b.take(t)
	b.take(t)
	b.put(t, 7, 1)
	b.put(t, 10, 1)
	b.put(t, 11, 0)
	want := []api.Wait{of(11, 0, 8), of(7, 1, 8), of(9, 2, 5), of(10, 1, 8), of(0, 7, 5)}
	if l := b.q.List(); !slices.Equal(l, want) {
		t.Errorf("List() = %v; want %v", l, want)
	}
	if l := takes(t, b.q); !slices.Equal(l, want) {
		t.Errorf("taken are %v; want %v", l, want)
	}
	if b.q.Count() != 13 || b.q.Len() != 0 {
		t.Errorf("Count() = %d, Len() = %d", b.q.Count(), b.q.Len())
	}
}

// P9.1: with each aging, a job of class 1 gives way to exactly so many jobs of class 0 that come one after the other, and to one more if that has the same turn and a lesser Id.
func TestAgings(t *testing.T) {
	for _, aging := range []int{1, 2, 3, 7, 100, 255, 256, 999, 1000} {
		for _, x := range []struct{ id, taken int }{{1, aging + 1}, {3, aging}} {
			q := New(aging, 2)
			q.Put(2, 1)
			q.Put(x.id, 0)
			n := 0
			for w, _ := q.Take(); w.Id == x.id && n <= x.taken; w, _ = q.Take() {
				n++
				q.Put(x.id, 0)
			}
			if n != x.taken {
				t.Errorf("aging %d: job 2 gives way to %d jobs with the Id %d; want %d", aging, n, x.id, x.taken)
			}
		}
	}
}

// ordered sorts jobs as the document's words have it: by Came plus aging for each class, and then by Id.
func ordered(aging int, jobs ...api.Wait) []api.Wait {
	slices.SortFunc(jobs, func(x, y api.Wait) int {
		if by := x.Came + aging*x.Class - y.Came - aging*y.Class; by != 0 {
			return by
		}
		return x.Id - y.Id
	})
	return jobs
}

// P9.1: Drop removes the job with the Id wherever it stands, and nothing else.
func TestDrop(t *testing.T) {
	for n := range 12 {
		for id := range n {
			b := newBoth(t, 2, 12)
			for i := range n {
				b.put(t, i, i*5%8)
			}
			b.drop(t, id)
			b.drop(t, id)
			b.drop(t, n)
			b.drop(t, -1)
			b.drop(t, 1<<32+id)
			b.drop(t, math.MinInt)
			b.put(t, id, 7-id%8)
			b.drop(t, id)
			for range n {
				b.take(t)
			}
		}
	}
	b := newBoth(t, 2, 12)
	b.drop(t, 0)
	b.put(t, 0, 0)
	b.take(t)
	b.drop(t, 0)
}

// P9.2: a nil queue has nothing and takes nothing.
func TestNil(t *testing.T) {
	var q *Queue
	for _, class := range []int{0, 7, 8, -1} {
		if e := q.Put(1, class); e != api.ErrArg {
			t.Errorf("Put(1, %d) = %v", class, e)
		}
	}
	if w, e := q.Take(); w != (api.Wait{}) || e != api.ErrArg {
		t.Errorf("Take() = %v, %v", w, e)
	}
	if q.Drop(1) || q.Drop(0) {
		t.Error("Drop is true")
	}
	if len(q.List()) > 0 || q.Len() != 0 || q.Count() != 0 {
		t.Errorf("List() = %v, Len() = %d, Count() = %d", q.List(), q.Len(), q.Count())
	}
}

// P9.2: a list is new memory, its spare capacity too: to overwrite it changes neither the queue nor another list. The lengths are many, so that some have spare capacity however lists grow.
func TestListIsNew(t *testing.T) {
	for n := range 20 {
		b := newBoth(t, 2, 30)
		for id := range n {
			b.put(t, id, id*3%8)
		}
		first, second := b.q.List(), b.q.List()
		was := slices.Clone(second)
		spoil(first)
		if !slices.Equal(second, was) {
			t.Fatalf("two lists of %d share memory", n)
		}
		same(t, b.q, b.m)
		b.put(t, 99, 0)
		spoil(second)
		same(t, b.q, b.m)
		list := b.q.List()
		was = slices.Clone(list)
		b.take(t)
		b.drop(t, 0)
		b.put(t, 100, 7)
		if !slices.Equal(list, was) {
			t.Fatalf("later calls changed a list of %d to %v", n, list)
		}
	}
}

// spoil overwrites a result with all its spare capacity.
func spoil(list []api.Wait) {
	list = list[:cap(list)]
	for i := range list {
		list[i] = of(-77, 77, -77)
	}
}

// P9.1: two queues share nothing.
func TestQueuesApart(t *testing.T) {
	a, b := newBoth(t, 1, 2), newBoth(t, 1000, 3)
	a.put(t, 1, 7)
	same(t, b.q, b.m)
	b.put(t, 1, 0)
	b.put(t, 2, 1)
	b.put(t, 3, 0)
	a.put(t, 2, 0)
	a.take(t)
	a.drop(t, 1)
	same(t, b.q, b.m)
	b.take(t)
	b.take(t)
	same(t, a.q, a.m)
}

// P9.1, P9.2: the greatest room is filled and emptied, with Drop at all places in between.
func TestGreatestRoom(t *testing.T) {
	random := rand.New(rand.NewSource(91))
	q := New(api.MaxAging, api.MaxRoom)
	var jobs []api.Wait
	for _, id := range random.Perm(1000) {
		w := of(id-500, random.Intn(8), 0)
		if e := q.Put(w.Id, w.Class); e != api.OK {
			t.Fatalf("Put = %v with %d of 1000 jobs", e, q.Len())
		}
		jobs = append(jobs, w)
	}
	if e := q.Put(500, 0); e != api.ErrFull {
		t.Errorf("Put = %v with 1000 jobs", e)
	}
	if e := q.Put(-500, 0); e != api.ErrTwice {
		t.Errorf("Put = %v of a job that waits, with 1000 jobs", e)
	}
	if !slices.Equal(q.List(), ordered(1000, jobs...)) {
		t.Error("List is not in order")
	}
	for range 600 {
		i := random.Intn(len(jobs))
		if !q.Drop(jobs[i].Id) || q.Drop(jobs[i].Id) {
			t.Fatalf("Drop of %v fails, or of a job that is gone succeeds", jobs[i])
		}
		jobs = slices.Delete(jobs, i, i+1)
	}
	if !slices.Equal(q.List(), jobs) || !slices.Equal(takes(t, q), jobs) {
		t.Error("List and Take do not return the jobs that were not dropped, in order")
	}
}

// P9.1, P9.2: a queue does as the model does in every sequence of five of a few calls.
func TestAllShortSequences(t *testing.T) {
	calls := []func(b both){
		func(b both) { b.put(t, 1, 0) },
		func(b both) { b.put(t, 0, 1) },
		func(b both) { b.put(t, 2, 2) },
		func(b both) { b.put(t, 3, 7) },
		func(b both) { b.put(t, 4, 8) },
		func(b both) { b.drop(t, 1) },
		func(b both) { b.drop(t, 2) },
		func(b both) { b.take(t) },
	}
	for number := range 1 << 15 {
		for aging := 1; aging <= 3; aging++ {
			b := newBoth(t, aging, 3)
			for place := range 5 {
				calls[number>>(3*place)&7](b)
			}
		}
	}
}

// P9.1, P9.2: a queue does as the model does after every call of long random sequences, and its jobs leave in the order of its list at last.
func TestAtRandom(t *testing.T) {
	random := rand.New(rand.NewSource(9))
	for round := range 120 {
		b := newBoth(t, 1+random.Intn(20), random.Intn(30))
		for range 400 {
			switch random.Intn(4 + round%3) {
			case 0:
				b.drop(t, random.Intn(40))
			case 1:
				b.take(t)
			case 2:
				if l := b.q.List(); len(l) > 0 {
					b.drop(t, l[random.Intn(len(l))].Id)
				}
			default:
				b.put(t, random.Intn(40), random.Intn(9))
			}
		}
		list := b.q.List()
		if l := takes(t, b.q); !slices.Equal(l, list) {
			t.Fatalf("List() = %v; taken are %v", list, l)
		}
	}
}

// delay returns which of the calls of Take from now on returns job 0 if ever new jobs of class 0 fill the room, each with an Id less than 0 or greater.
func delay(t *testing.T, q *Queue, step, bound int) int {
	t.Helper()
	id := 0
	for n := 1; n <= bound; n++ {
		for e := api.OK; e == api.OK; {
			id += step
			e = q.Put(id, 0)
		}
		if w, _ := q.Take(); w.Id == 0 {
			return n
		}
		if !slices.ContainsFunc(q.List(), func(w api.Wait) bool { return w.Id == 0 }) {
			t.Fatal("the job is gone")
		}
	}
	return bound + 1
}

// P9.3: a job is returned within the bound while ever new ones of class 0 are put, those at its turn ahead of it or behind it.
func TestTakenWithinBound(t *testing.T) {
	for _, aging := range []int{1, 2, 3, 10, 25} {
		for _, room := range []int{1, 2, 3, 9, 20} {
			for class := range api.Classes {
				for _, step := range []int{-1, 1} {
					q := New(aging, room)
					q.Put(0, class)
					want := 1
					if wait := aging * class; room > 1 && step < 0 {
						want = wait + room
					} else if room > 1 && wait > 0 {
						want = wait - 1 + room
					}
					bound := turn.Bound(aging, room)
					if got := delay(t, q, step, bound); got != want || got > bound {
						t.Errorf("aging %d, room %d, class %d, Ids by %d: returned by Take %d; want %d, and the bound is %d", aging, room, class, step, got, want, bound)
					}
				}
			}
		}
	}
	q := New(api.MaxAging, 20)
	q.Put(0, 7)
	if got := delay(t, q, -1, turn.Bound(api.MaxAging, 20)); got != 7020 {
		t.Errorf("with the greatest aging: returned by Take %d", got)
	}
}

// P9.3: whatever is put, taken and dropped, a job waits until it is dropped or returned, and never for more calls of Take than the bound.
func TestNoneWaitsBeyondBound(t *testing.T) {
	random := rand.New(rand.NewSource(93))
	for range 150 {
		aging, room := 1+random.Intn(4), 1+random.Intn(6)
		q, late := New(aging, room), random.Intn(api.Classes)
		// How often Take returned another job since each job was put.
		waited := map[int]int{}
		for op := range 800 {
			switch n := random.Intn(20); {
			case n == 0 && len(waited) > 0:
				id := q.List()[random.Intn(q.Len())].Id
				if !q.Drop(id) {
					t.Fatalf("Drop(%d) fails", id)
				}
				delete(waited, id)
			case n < 12:
				// Ids that fall let those that are put later go ahead at one turn.
				if q.Put(-op, max(0, random.Intn(api.Classes)-late)) == api.OK {
					waited[-op] = 0
				}
			default:
				w, e := q.Take()
				if _, ok := waited[w.Id]; e == api.OK && !ok {
					t.Fatalf("Take() = %v, which does not wait", w)
				}
				if e == api.OK {
					delete(waited, w.Id)
					for id := range waited {
						waited[id]++
					}
				}
			}
			var list []int
			for _, w := range q.List() {
				list = append(list, w.Id)
				if n, ok := waited[w.Id]; !ok || n >= turn.Bound(aging, room) {
					t.Fatalf("aging %d, room %d: %v still waits after %d calls of Take; put and not returned: %v", aging, room, w, n, ok)
				}
			}
			if len(list) != len(waited) {
				t.Fatalf("%v wait; want %v", list, waited)
			}
		}
	}
}
