package wheel

import (
	"math"
	"math/rand"
	"slices"
	"testing"

	"remontoir/api"
)

const most = math.MaxUint64

// model is what a wheel should be: its time, and its timers in no order.
type model struct {
	now    uint64
	timers []api.Due
}

func (m *model) insert(id int, at uint64) api.Errno {
	if _, ok := m.at(id); ok {
		return api.ErrTwice
	}
	if m.now >= at {
		return api.ErrPast
	}
	m.timers = append(m.timers, api.Due{Id: id, At: at})
	return api.OK
}

func (m *model) at(id int) (uint64, bool) {
	for _, d := range m.timers {
		if d.Id == id {
			return d.At, true
		}
	}
	return 0, false
}

func (m *model) cancel(id int) (uint64, bool) {
	at, ok := m.at(id)
	m.timers = slices.DeleteFunc(m.timers, func(d api.Due) bool { return d.Id == id })
	return at, ok
}

func (m *model) first() (api.Due, bool) {
	if len(m.timers) == 0 {
		return api.Due{}, false
	}
	first := m.timers[0]
	for _, d := range m.timers {
		if d.At < first.At || d.At == first.At && d.Id < first.Id {
			first = d
		}
	}
	return first, true
}

func (m *model) pop(to uint64) (api.Due, bool) {
	d, ok := m.first()
	if ok && d.At <= to {
		m.cancel(d.Id)
		m.now = d.At
		return d, true
	}
	m.now = max(m.now, to)
	return api.Due{}, false
}

func (m *model) advance(n uint64) ([]api.Due, api.Errno) {
	if n > most-m.now {
		return nil, api.ErrClock
	}
	to := m.now + n
	var list []api.Due
	for {
		d, ok := m.first()
		if !ok || d.At > to {
			m.now = to
			return list, api.OK
		}
		m.cancel(d.Id)
		list = append(list, d)
	}
}

// place goes up from level to level until the time and Now agree in all that is above it, where the program looks for the highest digit in which they differ.
func place(now, at uint64) complex128 {
	for level := range 6 {
		shift := 6 * level
		if now>>(shift+6) == at>>(shift+6) {
			return complex(float64(at>>shift&63), float64(level))
		}
	}
	return -1 + 6i
}

func (m *model) load() [7]int {
	var load [7]int
	for _, d := range m.timers {
		load[int(imag(place(m.now, d.At)))]++
	}
	return load
}

// same fails unless the wheel is as the model says, by everything that it tells of itself, for the Ids of the model and those in ids.
func same(t *testing.T, w *Wheel, m *model, ids ...int) {
	t.Helper()
	if w.Now() != m.now || w.Len() != len(m.timers) {
		t.Fatalf("Now() = %d, Len() = %d; want %d, %d", w.Now(), w.Len(), m.now, len(m.timers))
	}
	if got, want := w.Load(), m.load(); got != want {
		t.Fatalf("Load() = %v at %d; want %v", got, m.now, want)
	}
	d, ok := w.First()
	if want, is := m.first(); d != want || ok != is {
		t.Fatalf("First() = %v, %v; want %v, %v", d, ok, want, is)
	}
	for _, d := range m.timers {
		if at, ok := w.At(d.Id); at != d.At || !ok {
			t.Fatalf("At(%d) = %d, %v; want %d, true", d.Id, at, ok, d.At)
		}
		if p, ok := w.Place(d.Id); p != place(m.now, d.At) || !ok {
			t.Fatalf("Place(%d) = %v, %v for %d at %d; want %v, true", d.Id, p, ok, d.At, m.now, place(m.now, d.At))
		}
	}
	for _, id := range ids {
		if _, ok := m.at(id); ok {
			continue
		}
		if at, ok := w.At(id); at != 0 || ok {
			t.Fatalf("At(%d) = %d, %v; want 0, false", id, at, ok)
		}
		if p, ok := w.Place(id); p != 0 || ok {
			t.Fatalf("Place(%d) = %v, %v; want 0, false", id, p, ok)
		}
	}
}

// filled is a wheel at a time with these timers, and the model of it.
func filled(t *testing.T, now uint64, timers ...api.Due) (*Wheel, *model) {
	t.Helper()
	w, m := New(now), &model{now: now}
	for _, d := range timers {
		if e := w.Insert(d.Id, d.At); e != api.OK {
			t.Fatalf("Insert(%d, %d) = %v at %d; want OK", d.Id, d.At, e, now)
		}
		m.insert(d.Id, d.At)
	}
	same(t, w, m)
	return w, m
}

// spread are timers at each level and beyond the rings, as seen from time 0, with some that share a slot or a time. Ids and times are in no common order.
var spread = []api.Due{
	{Id: 3, At: 1}, {Id: -4, At: 63}, {Id: 0, At: 5}, {Id: 21, At: 5}, {Id: -21, At: 5},
	{Id: 8, At: 64}, {Id: 7, At: 127}, {Id: 9, At: 70}, {Id: 10, At: 70}, {Id: 2, At: 4095},
	{Id: 1, At: 4096}, {Id: -1, At: 4097}, {Id: 12, At: 1<<18 - 1},
	{Id: 14, At: 1 << 18}, {Id: 13, At: 1<<24 - 1},
	{Id: 16, At: 1 << 24}, {Id: 15, At: 1<<24 + 1<<18}, {Id: 17, At: 1<<30 - 1},
	{Id: 19, At: 1 << 30}, {Id: 18, At: 1<<30 + 70}, {Id: 20, At: 1<<36 - 1},
	{Id: math.MaxInt, At: 1 << 36}, {Id: 30, At: 1<<36 + 70}, {Id: 31, At: 1 << 42}, {Id: 29, At: 1<<60 + 1},
	{Id: 33, At: 1 << 63}, {Id: math.MinInt, At: most}, {Id: 32, At: most},
}

// strange are Ids of no timer in spread: slots, levels and times of some are among them.
var strange = []int{math.MinInt + 1, -64, -6, -3, 4, 5, 6, 11, 63, 64, 70, 4096, math.MaxInt - 1}

// stations are times at which digits change, and their neighbours.
func stations() []uint64 {
	list := []uint64{0, 1, 2, 5, 62, most - 64, most - 63, most - 1, most}
	for shift := 6; shift < 64; shift += 6 {
		x := uint64(1) << shift
		list = append(list, x-1, x, x+1, x+63, x+64, 2*x-1, 2*x, x*63)
	}
	list = append(list, 1<<63-1, 1<<63, 1<<63+1, 1<<36+1<<18+1<<6+3)
	slices.Sort(list)
	return slices.Compact(list)
}

// P6.1: New returns a wheel without timers at the given time, one that shares nothing with another.
func TestNew(t *testing.T) {
	for _, now := range stations() {
		w := New(now)
		if w == nil {
			t.Fatalf("New(%d) = nil", now)
		}
		same(t, w, &model{now: now}, -1, 0, 1)
	}
	a, b := New(7), New(9)
	a.Insert(1, 70)
	a.Insert(2, most)
	same(t, b, &model{now: 9}, 1, 2)
	if e := b.Insert(1, 80); e != api.OK {
		t.Errorf("Insert = %v of a timer that is in another wheel; want OK", e)
	}
	b.Advance(100)
	same(t, a, &model{now: 7, timers: []api.Due{{Id: 1, At: 70}, {Id: 2, At: most}}})
}

// P6.1, P6.2, P6.3: the chapter's examples.
func TestExamples(t *testing.T) {
	w := New(0)
	if w.Insert(1, 5) != api.OK || w.Insert(2, 70) != api.OK {
		t.Error("Insert of a new timer is not OK")
	}
	if p, ok := w.Place(1); p != 5 || !ok {
		t.Errorf("Place(1) = %v, %v; want 5, true", p, ok)
	}
	if p, ok := w.Place(2); p != 1+1i || !ok {
		t.Errorf("Place(2) = %v, %v; want 1+1i, true", p, ok)
	}
	if l, e := w.Advance(64); !slices.Equal(l, []api.Due{{Id: 1, At: 5}}) || e != api.OK {
		t.Errorf("Advance(64) = %v, %v; want timer 1", l, e)
	}
	if p, ok := w.Place(2); p != 6 || !ok {
		t.Errorf("Place(2) = %v, %v; want 6, true", p, ok)
	}
	if l, e := w.Advance(0); len(l) != 0 || e != api.OK {
		t.Errorf("Advance(0) = %v, %v; want nothing", l, e)
	}
}

// P6.1: Insert refuses an Id that is there and a time that is not greater than Now, the former first, and neither has an effect.
func TestInsert(t *testing.T) {
	cases := []struct {
		id   int
		at   uint64
		want api.Errno
	}{
		{1, 100, api.ErrPast}, {1, 99, api.ErrPast}, {1, 0, api.ErrPast},
		{1, 101, api.OK}, {1, 101, api.ErrTwice}, {1, 102, api.ErrTwice}, {1, most, api.ErrTwice}, {1, 100, api.ErrTwice}, {1, 0, api.ErrTwice},
		{0, 101, api.OK}, {0, 0, api.ErrTwice}, {-1, 127, api.OK}, {-1, 128, api.ErrTwice},
		{math.MinInt, most, api.OK}, {math.MinInt, 7, api.ErrTwice}, {math.MaxInt, 1 << 36, api.OK}, {math.MaxInt, 1 << 37, api.ErrTwice},
		{2, 100, api.ErrPast}, {2, 1, api.ErrPast}, {2, 128, api.OK},
	}
	w, m := New(100), &model{now: 100}
	for _, x := range cases {
		if e := w.Insert(x.id, x.at); e != x.want {
			t.Errorf("Insert(%d, %d) = %v; want %v", x.id, x.at, e, x.want)
		}
		if x.want == api.OK {
			m.timers = append(m.timers, api.Due{Id: x.id, At: x.at})
		}
		same(t, w, m, -1, 0, 1, 2, 3, math.MinInt, math.MaxInt)
	}
}

// P6.1: at the clock's end no time is greater than Now.
func TestInsertAtTheEnd(t *testing.T) {
	w := New(most)
	for _, at := range stations() {
		if e := w.Insert(1, at); e != api.ErrPast {
			t.Errorf("Insert(1, %d) = %v at the end; want ErrPast", at, e)
		}
	}
	same(t, w, &model{now: most}, 1)
}

// P6.1: an Id that was cancelled or returned may be inserted again.
func TestInsertAgain(t *testing.T) {
	w, m := filled(t, 0, spread...)
	for _, id := range []int{3, 8, math.MinInt} {
		w.Cancel(id)
		m.cancel(id)
	}
	w.Advance(5)
	m.advance(5)
	for _, d := range []api.Due{{Id: 3, At: 6}, {Id: 8, At: most}, {Id: math.MinInt, At: 64}, {Id: 0, At: 6}, {Id: -21, At: 1 << 36}} {
		if e := w.Insert(d.Id, d.At); e != api.OK || m.insert(d.Id, d.At) != api.OK {
			t.Errorf("Insert(%d, %d) = %v; want OK", d.Id, d.At, e)
		}
		same(t, w, m, strange...)
	}
}

// P6.1: Cancel removes the one timer, at whichever level it is, and has no effect if there is none.
func TestCancel(t *testing.T) {
	for _, gone := range spread {
		w, m := filled(t, 0, spread...)
		if at, ok := w.Cancel(gone.Id); at != gone.At || !ok {
			t.Errorf("Cancel(%d) = %d, %v; want %d, true", gone.Id, at, ok, gone.At)
		}
		m.cancel(gone.Id)
		same(t, w, m, gone.Id)
		for _, id := range append([]int{gone.Id}, strange...) {
			if at, ok := w.Cancel(id); at != 0 || ok {
				t.Errorf("Cancel(%d) = %d, %v; want 0, false", id, at, ok)
			}
		}
		same(t, w, m, gone.Id)
		got, _ := w.Advance(most)
		if want, _ := m.advance(most); !slices.Equal(got, want) {
			t.Errorf("Advance returns %v after Cancel(%d); want %v", got, gone.Id, want)
		}
	}
	if at, ok := New(5).Cancel(0); at != 0 || ok {
		t.Errorf("Cancel(0) = %d, %v without timers; want 0, false", at, ok)
	}
}

// P6.1, P6.3: a timer is cancelled where it has come down to, too.
func TestCancelLater(t *testing.T) {
	for _, now := range stations() {
		w, m := filled(t, 0, spread...)
		w.Advance(now)
		m.advance(now)
		for _, d := range spread {
			at, ok := w.Cancel(d.Id)
			if want, is := m.cancel(d.Id); at != want || ok != is {
				t.Fatalf("Cancel(%d) = %d, %v at %d; want %d, %v", d.Id, at, ok, now, want, is)
			}
			same(t, w, m, d.Id)
		}
	}
}

// P6.2: First is the timer with the smallest time, then with the smallest Id, at whichever level, and it leaves it there.
func TestFirst(t *testing.T) {
	cases := []struct {
		timers []api.Due
		first  int
	}{
		{[]api.Due{{Id: 9, At: 70}, {Id: -2, At: 70}, {Id: 4, At: 70}, {Id: 1, At: 71}}, -2},
		{[]api.Due{{Id: 1, At: 71}, {Id: 9, At: 70}}, 9},
		{[]api.Due{{Id: 1, At: 64}, {Id: 2, At: 63}}, 2},
		{[]api.Due{{Id: 1, At: 4096}, {Id: 2, At: 191}, {Id: 3, At: 190}}, 3},
		{[]api.Due{{Id: 1, At: 130}, {Id: 2, At: 127}}, 2},
		{[]api.Due{{Id: 1, At: most}, {Id: 2, At: 1 << 36}, {Id: 3, At: 1<<36 + 1}}, 2},
		{[]api.Due{{Id: 1, At: 1 << 36}, {Id: 2, At: 1<<36 - 1}}, 2},
		{[]api.Due{{Id: 1, At: most}, {Id: 0, At: most}, {Id: math.MinInt, At: most}, {Id: math.MaxInt, At: most}}, math.MinInt},
		{[]api.Due{{Id: 0, At: 1}}, 0},
	}
	for _, x := range cases {
		w, m := filled(t, 0, x.timers...)
		for range 2 {
			if d, ok := w.First(); d.Id != x.first || !ok {
				t.Errorf("First() = %v, %v of %v; want timer %d", d, ok, x.timers, x.first)
			}
		}
		same(t, w, m)
	}
	if d, ok := New(3).First(); d != (api.Due{}) || ok {
		t.Errorf("First() = %v, %v without timers; want a zero timer, false", d, ok)
	}
}

// P6.2: Pop returns one timer a call while one is due, sets Now to its time, and sets Now to the given time only when none is due and only forwards.
func TestPop(t *testing.T) {
	none := api.Due{}
	cases := []struct {
		to   uint64
		want api.Due
		ok   bool
		now  uint64
	}{
		{3, none, false, 10}, {10, none, false, 10}, {0, none, false, 10}, {69, none, false, 69}, {68, none, false, 69},
		{70, api.Due{Id: -2, At: 70}, true, 70}, {69, none, false, 70}, {0, none, false, 70},
		{4000, api.Due{Id: 4, At: 70}, true, 70}, {70, api.Due{Id: 9, At: 70}, true, 70}, {70, none, false, 70},
		{most, api.Due{Id: 1, At: 71}, true, 71}, {1 << 40, none, false, 1 << 40},
		{most, api.Due{Id: 5, At: 1<<40 + 1}, true, 1<<40 + 1}, {most - 1, none, false, most - 1}, {most, api.Due{Id: 6, At: most}, true, most},
		{most, none, false, most}, {5, none, false, most},
	}
	w, m := filled(t, 10, api.Due{Id: 9, At: 70}, api.Due{Id: -2, At: 70}, api.Due{Id: 4, At: 70}, api.Due{Id: 1, At: 71}, api.Due{Id: 5, At: 1<<40 + 1}, api.Due{Id: 6, At: most})
	for i, x := range cases {
		if d, ok := w.Pop(x.to); d != x.want || ok != x.ok || w.Now() != x.now {
			t.Errorf("%d: Pop(%d) = %v, %v, and Now() = %d; want %v, %v, %d", i, x.to, d, ok, w.Now(), x.want, x.ok, x.now)
		}
		m.pop(x.to)
		same(t, w, m, x.want.Id)
	}
}

// P6.2: the timers that Pop leaves at the time of Now are due at once, but no other one may be inserted beside them.
func TestLeftAtNow(t *testing.T) {
	for _, at := range []uint64{5, 64, 70, 4096 + 7, 1 << 30, 1<<36 - 1, 1 << 36, 1<<60 + 3, most} {
		left := []api.Due{{Id: -3, At: at}, {Id: 2, At: at}}
		w, m := filled(t, 0, left[1], left[0], api.Due{Id: -8, At: at})
		if d, ok := w.Pop(at); d != (api.Due{Id: -8, At: at}) || !ok {
			t.Errorf("Pop(%d) = %v, %v; want timer -8", at, d, ok)
		}
		m.pop(at)
		same(t, w, m, -8)
		if p, ok := w.Place(2); p != complex(float64(at%64), 0) || !ok {
			t.Errorf("Place(2) = %v, %v at its time %d; want its slot at level 0", p, ok, at)
		}
		if e := w.Insert(-8, at); e != api.ErrPast {
			t.Errorf("Insert(-8, %d) = %v at this time; want ErrPast", at, e)
		}
		if at2, ok := w.Cancel(2); at2 != at || !ok {
			t.Errorf("Cancel(2) = %d, %v at its time %d", at2, ok, at)
		}
		if l, e := w.Advance(0); !slices.Equal(l, left[:1]) || e != api.OK {
			t.Errorf("Advance(0) = %v, %v at %d; want timer -3, which is left", l, e, at)
		}
		same(t, w, &model{now: at}, -8, -3, 2)
	}
}

// P6.2: Advance returns the timers up to its end and with it, sorted, and none behind it.
func TestAdvance(t *testing.T) {
	for _, now := range []uint64{0, 1, 5, 63, 64, 70, 4095, 4096, 1<<36 - 1, 1 << 36, 1 << 63, most} {
		for _, to := range stations() {
			if to < now {
				continue
			}
			var timers []api.Due
			for _, d := range spread {
				if d.At > now {
					timers = append(timers, d)
				}
			}
			w, m := filled(t, now, timers...)
			got, e := w.Advance(to - now)
			if want, _ := m.advance(to - now); e != api.OK || !slices.Equal(got, want) {
				t.Errorf("Advance(%d) = %v, %v at %d; want %v", to-now, got, e, now, want)
			}
			same(t, w, m, strange...)
		}
	}
}

// P6.2: a list in full, so that the order does not hang on the model alone.
func TestAdvanceList(t *testing.T) {
	w, _ := filled(t, 0, spread...)
	want := []api.Due{
		{Id: 3, At: 1}, {Id: -21, At: 5}, {Id: 0, At: 5}, {Id: 21, At: 5}, {Id: -4, At: 63},
		{Id: 8, At: 64}, {Id: 9, At: 70}, {Id: 10, At: 70}, {Id: 7, At: 127}, {Id: 2, At: 4095}, {Id: 1, At: 4096},
	}
	if got, e := w.Advance(4096); !slices.Equal(got, want) || e != api.OK || w.Now() != 4096 {
		t.Errorf("Advance(4096) = %v, %v; want %v", got, e, want)
	}
	want = []api.Due{{Id: -1, At: 4097}}
	if got, e := w.Advance(1); !slices.Equal(got, want) || e != api.OK || w.Now() != 4097 {
		t.Errorf("Advance(1) = %v, %v; want %v", got, e, want)
	}
}

// P6.2: Advance beyond the clock's end has no effect.
func TestAdvanceTooFar(t *testing.T) {
	for _, x := range []struct{ now, n uint64 }{{1, most}, {100, most - 99}, {100, most}, {1 << 63, 1 << 63}, {most - 1, 2}, {most, 1}, {most, most}} {
		w, m := New(x.now), &model{now: x.now}
		if x.now < most {
			w.Insert(1, x.now+1)
			m.insert(1, x.now+1)
			w.Insert(2, most)
			m.insert(2, most)
		}
		if got, e := w.Advance(x.n); len(got) != 0 || e != api.ErrClock {
			t.Errorf("Advance(%d) = %v, %v at %d; want nothing, ErrClock", x.n, got, e, x.now)
		}
		same(t, w, m, 1, 2)
		got, e := w.Advance(most - x.now)
		if want, _ := m.advance(most - x.now); !slices.Equal(got, want) || e != api.OK {
			t.Errorf("Advance(%d) = %v, %v at %d; want %v", most-x.now, got, e, x.now, want)
		}
		same(t, w, m, 1, 2)
	}
}

// spoil overwrites a result with all its spare capacity.
func spoil(list []api.Due) {
	list = list[:cap(list)]
	for i := range list {
		list[i] = api.Due{Id: -77, At: 77}
	}
}

// P6.2: what Advance returns is new memory, its spare capacity too: to overwrite it changes neither the wheel nor another result, and no later call changes it.
func TestResultsAreNew(t *testing.T) {
	// Lists of many lengths, so that some have spare capacity however lists grow.
	for n := range 20 {
		var timers []api.Due
		for id := range n {
			timers = append(timers, api.Due{Id: id, At: uint64(70 + id%2)}, api.Due{Id: id + 20, At: 1<<40 + uint64(id)}, api.Due{Id: id + 40, At: 1 << 50})
		}
		w, m := filled(t, 0, timers...)
		near, _ := w.Advance(100)
		wantNear, _ := m.advance(100)
		far, _ := w.Advance(1 << 41)
		wantFar, _ := m.advance(1 << 41)
		for id := range n {
			w.Insert(id, 1<<42+uint64(id))
			m.insert(id, 1<<42+uint64(id))
		}
		if !slices.Equal(near, wantNear) || !slices.Equal(far, wantFar) {
			t.Errorf("later calls changed a result: %v, %v; want %v, %v", near, far, wantNear, wantFar)
		}
		spoil(near)
		if !slices.Equal(far, wantFar) {
			t.Error("two results share memory")
		}
		spoil(far)
		same(t, w, m)
	}
}

// P6.3: the places at each level and beyond the rings, and the load.
func TestPlaceAndLoad(t *testing.T) {
	cases := []struct {
		now, at uint64
		want    complex128
	}{
		{0, 1, 1}, {0, 63, 63}, {0, 64, 1 + 1i}, {0, 4095, 63 + 1i}, {0, 4096, 1 + 2i}, {0, 1<<18 - 1, 63 + 2i}, {0, 1 << 18, 1 + 3i},
		{0, 1 << 24, 1 + 4i}, {0, 1 << 30, 1 + 5i}, {0, 1<<36 - 1, 63 + 5i}, {0, 1 << 36, -1 + 6i}, {0, 1 << 42, -1 + 6i}, {0, most, -1 + 6i},
		{63, 64, 1 + 1i}, {62, 63, 63}, {64, 65, 1}, {64, 127, 63}, {100, 128, 2 + 1i}, {4095, 4096, 1 + 2i}, {4096, 4096 + 64, 1 + 1i},
		{1<<36 - 1, 1 << 36, -1 + 6i}, {1 << 36, 1<<36 + 1, 1}, {1 << 36, 1<<37 - 1, 63 + 5i}, {1 << 36, 1 << 37, -1 + 6i},
		{1<<63 - 1, 1 << 63, -1 + 6i}, {most - 1, most, 63}, {most - 64, most, 63 + 1i}, {most - 1<<36, most, -1 + 6i},
	}
	for _, x := range cases {
		w := New(x.now)
		w.Insert(7, x.at)
		if p, ok := w.Place(7); p != x.want || !ok {
			t.Errorf("Place = %v, %v for %d at %d; want %v, true", p, ok, x.at, x.now, x.want)
		}
		var load [7]int
		load[int(imag(x.want))] = 1
		if got := w.Load(); got != load {
			t.Errorf("Load() = %v with a timer for %d at %d; want %v", got, x.at, x.now, load)
		}
	}
	w, _ := filled(t, 0, spread...)
	if got, want := w.Load(), [7]int{5, 5, 3, 2, 3, 3, 7}; got != want {
		t.Errorf("Load() = %v; want %v", got, want)
	}
}

// P6.3: the place of a timer from each time for each later time.
func TestPlaceEverywhere(t *testing.T) {
	for _, now := range stations() {
		var timers []api.Due
		for id, at := range stations() {
			if at > now {
				timers = append(timers, api.Due{Id: id, At: at})
			}
		}
		filled(t, now, timers...)
	}
}

// P6.3: timers come down from ring to ring, and from beyond them, as Now goes on, by Pop as by Advance.
func TestComesDown(t *testing.T) {
	at := uint64(1<<42 + 1<<36 + 1<<30 + 1<<24 + 1<<18 + 1<<12 + 1<<6 + 1)
	way := []struct {
		now  uint64
		want complex128
	}{
		{1, -1 + 6i}, {1<<36 - 1, -1 + 6i}, {1 << 42, -1 + 6i}, {1<<42 + 1<<36 - 1, -1 + 6i}, {1<<42 + 1<<36, 1 + 5i},
		{at - 1<<24 - 1<<18 - 1<<12 - 1<<6 - 2, 1 + 5i}, {at - 1<<24 - 1<<18 - 1<<12 - 1<<6 - 1, 1 + 4i},
		{at - 1<<18 - 1<<12 - 1<<6 - 1, 1 + 3i}, {at - 1<<12 - 1<<6 - 1, 1 + 2i}, {at - 1<<6 - 2, 1 + 2i}, {at - 1<<6 - 1, 1 + 1i}, {at - 2, 1 + 1i}, {at - 1, 1},
	}
	popped, advanced := New(0), New(0)
	popped.Insert(1, at)
	advanced.Insert(1, at)
	for _, x := range way {
		if d, ok := popped.Pop(x.now); d != (api.Due{}) || ok {
			t.Errorf("Pop(%d) = %v, %v; the timer is for %d", x.now, d, ok, at)
		}
		if l, e := advanced.Advance(x.now - advanced.Now()); len(l) != 0 || e != api.OK {
			t.Errorf("Advance to %d = %v, %v; the timer is for %d", x.now, l, e, at)
		}
		for _, w := range []*Wheel{popped, advanced} {
			if p, ok := w.Place(1); p != x.want || !ok || w.Now() != x.now {
				t.Errorf("Place(1) = %v, %v at %d; want %v at %d", p, ok, w.Now(), x.want, x.now)
			}
		}
	}
	if d, ok := popped.Pop(most); d != (api.Due{Id: 1, At: at}) || !ok || popped.Now() != at {
		t.Errorf("Pop = %v, %v", d, ok)
	}
	if l, e := advanced.Advance(1); !slices.Equal(l, []api.Due{{Id: 1, At: at}}) || e != api.OK || advanced.Now() != at {
		t.Errorf("Advance(1) = %v, %v", l, e)
	}
}

// P6.1: the methods of a nil wheel return ErrArg where they return an error, and zero values otherwise.
func TestNil(t *testing.T) {
	var w *Wheel
	for _, n := range stations() {
		if e := w.Insert(int(n), n); e != api.ErrArg {
			t.Errorf("Insert(%d, %d) = %v; want ErrArg", int(n), n, e)
		}
		if l, e := w.Advance(n); len(l) != 0 || e != api.ErrArg {
			t.Errorf("Advance(%d) = %v, %v; want nothing, ErrArg", n, l, e)
		}
		if d, ok := w.Pop(n); d != (api.Due{}) || ok {
			t.Errorf("Pop(%d) = %v, %v", n, d, ok)
		}
		if at, ok := w.Cancel(int(n)); at != 0 || ok {
			t.Errorf("Cancel(%d) = %d, %v", int(n), at, ok)
		}
		same(t, w, &model{}, int(n))
	}
}

// P6.4: to advance by n and then by m returns the same timers as to advance by n + m, and Pop the same as Advance.
func TestAdvanceInParts(t *testing.T) {
	ends := stations()
	for i, first := range ends {
		for _, last := range ends[i:] {
			whole, m := filled(t, 0, spread...)
			parts, _ := filled(t, 0, spread...)
			single, _ := filled(t, 0, spread...)
			want, _ := m.advance(last)
			got, e := whole.Advance(last)
			a, e1 := parts.Advance(first)
			b, e2 := parts.Advance(last - first)
			var popped []api.Due
			for _, to := range []uint64{first, last} {
				for d, ok := single.Pop(to); ok; d, ok = single.Pop(to) {
					popped = append(popped, d)
				}
			}
			if e != api.OK || e1 != api.OK || e2 != api.OK || !slices.Equal(got, want) || !slices.Equal(append(a, b...), want) || !slices.Equal(popped, want) {
				t.Fatalf("to %d: Advance returns %v, by way of %d %v and %v, Pop %v; want %v", last, got, first, a, b, popped, want)
			}
			for _, w := range []*Wheel{whole, parts, single} {
				same(t, w, m, strange...)
			}
		}
	}
}

// P6.4: tick by tick, each timer is returned when Now is at its time.
func TestTickByTick(t *testing.T) {
	now := uint64(1<<36 - 5000)
	var timers []api.Due
	for id := range 400 {
		timers = append(timers, api.Due{Id: (id * 7) % 400, At: now + 1 + uint64(id*id)%9000})
	}
	w, m := filled(t, now, timers...)
	for range 9100 {
		got, e := w.Advance(1)
		if want, _ := m.advance(1); e != api.OK || !slices.Equal(got, want) {
			t.Fatalf("Advance(1) = %v, %v up to %d; want %v", got, e, m.now, want)
		}
		for _, d := range got {
			if d.At != w.Now() {
				t.Fatalf("timer %v at %d", d, w.Now())
			}
		}
	}
	same(t, w, m)
	if w.Len() != 0 {
		t.Errorf("%d timers are left", w.Len())
	}
}

// P6.1 to P6.4: after any calls, the wheel is as the model says, and has returned what the model has.
func TestAnyCalls(t *testing.T) {
	random := rand.New(rand.NewSource(64))
	starts := stations()
	for round := range 300 {
		now := starts[random.Intn(len(starts))]
		w, m := New(now), &model{now: now}
		// Few Ids bring many refusals, many bring full wheels; small widths keep the timers near, great ones spread them.
		ids, width := 1+random.Intn(40), 1+random.Intn(64)
		var all []int
		for id := range ids {
			all = append(all, id-ids/3)
		}
		for range 150 {
			anyCall(t, w, m, random, all[random.Intn(ids)], random.Uint64()>>(64-1-random.Intn(width)))
			same(t, w, m, all...)
		}
		if t.Failed() {
			t.Fatalf("in round %d", round)
		}
	}
}

// anyCall makes one call on the wheel and the model and compares what they return. Insert is the most frequent one, so that the wheel fills up.
func anyCall(t *testing.T, w *Wheel, m *model, random *rand.Rand, id int, n uint64) {
	t.Helper()
	ahead := m.now + n
	if random.Intn(8) == 0 {
		ahead = n
	}
	switch kind := random.Intn(20); {
	case kind < 11:
		if got, want := w.Insert(id, ahead), m.insert(id, ahead); got != want {
			t.Fatalf("Insert(%d, %d) = %v at %d; want %v", id, ahead, got, m.now, want)
		}
	case kind < 13:
		got, ok := w.Cancel(id)
		if want, is := m.cancel(id); got != want || ok != is {
			t.Fatalf("Cancel(%d) = %d, %v; want %d, %v", id, got, ok, want, is)
		}
	case kind < 17:
		got, ok := w.Pop(ahead)
		if want, is := m.pop(ahead); got != want || ok != is {
			t.Fatalf("Pop(%d) = %v, %v; want %v, %v", ahead, got, ok, want, is)
		}
	default:
		got, e := w.Advance(n)
		if want, is := m.advance(n); !slices.Equal(got, want) || e != is {
			t.Fatalf("Advance(%d) = %v, %v; want %v, %v", n, got, e, want, is)
		}
	}
}
