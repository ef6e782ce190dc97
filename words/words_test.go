package words

import (
	"errors"
	"math"
	"slices"
	"testing"

	"allotment/api"
)

const most = math.MaxUint64

// fresh makes words of these values, without a step.
func fresh(t *testing.T, values ...uint64) *Words {
	t.Helper()
	w := New(len(values))
	for at, x := range values {
		if !w.Put(at, x) {
			t.Fatalf("Put(%d) of %d words is refused", at, len(values))
		}
	}
	return w
}

// stands asks for the words, how many steps were done and the last one.
func stands(t *testing.T, w *Words, values []uint64, steps int, last api.Access) {
	t.Helper()
	if got := w.All(); !slices.Equal(got, values) {
		t.Errorf("words are %v, want %v", got, values)
	}
	if got := w.Steps(); got != steps {
		t.Errorf("%d steps, want %d", got, steps)
	}
	if got := w.Last(); got != last {
		t.Errorf("last step is %+v, want %+v", got, last)
	}
}

// panicked calls f and tells what it panicked with.
func panicked(f func()) (with any) {
	defer func() { with = recover() }()
	f()
	return nil
}

// places is where no word is, of n words.
func places(n int) []int {
	return []int{-1, -2, math.MinInt, n, n + 1, api.MaxWords, api.MaxWords + 1, math.MaxInt}
}

// accesses is each kind of step at a place, done by client 7.
func accesses(w *Words, at int) map[string]func() {
	return map[string]func(){
		"Load":  func() { w.Load(7, at) },
		"Store": func() { w.Store(7, at, 9) },
		"Swap":  func() { w.Swap(7, at, 0, 9) },
		"Add":   func() { w.Add(7, at, 9) },
	}
}

// P2.1: New, of as many words as may be and of others.
func TestNew(t *testing.T) {
	for _, c := range []struct{ n, want int }{
		{0, 0}, {1, 1}, {2, 2}, {38, 38}, {api.MaxWords - 1, api.MaxWords - 1}, {api.MaxWords, api.MaxWords},
		{api.MaxWords + 1, 0}, {math.MaxInt, 0}, {-1, 0}, {math.MinInt, 0},
	} {
		w := New(c.n)
		if w == nil {
			t.Fatalf("New(%d) is nil", c.n)
		}
		if got := w.Len(); got != c.want {
			t.Errorf("New(%d) has %d words, want %d", c.n, got, c.want)
		}
		stands(t, w, make([]uint64, c.want), 0, api.Access{})
	}
}

// P2.1: the first and the last place are words as all others.
func TestPlacesAtTheEnds(t *testing.T) {
	for _, n := range []int{1, 2, api.MaxWords} {
		for _, at := range []int{0, n - 1} {
			w := New(n)
			w.Store(1, at, 5)
			if got := w.Load(1, at); got != 5 || w.Look(at) != 5 || w.Steps() != 2 {
				t.Errorf("%d words: at %d stands %d behind %d steps", n, at, got, w.Steps())
			}
		}
	}
}

// P2.1: Load.
func TestLoad(t *testing.T) {
	w := fresh(t, 5, most, 0)
	for at, want := range []uint64{5, most, 0} {
		if got := w.Load(3, at); got != want {
			t.Errorf("Load(%d) = %d, want %d", at, got, want)
		}
		stands(t, w, []uint64{5, most, 0}, at+1, api.Access{Client: 3, Kind: api.Load, At: at, Was: want, OK: true})
	}
}

// P2.1: Store.
func TestStore(t *testing.T) {
	w := fresh(t, 5, 6)
	w.Store(2, 1, 9)
	stands(t, w, []uint64{5, 9}, 1, api.Access{Client: 2, Kind: api.Store, At: 1, Was: 6, Put: 9, OK: true})
	w.Store(0, 1, 0)
	stands(t, w, []uint64{5, 0}, 2, api.Access{Kind: api.Store, At: 1, Was: 9, OK: true})
	w.Store(1, 0, most)
	stands(t, w, []uint64{most, 0}, 3, api.Access{Client: 1, Kind: api.Store, Was: 5, Put: most, OK: true})
}

// P2.1: Swap, done and not done.
func TestSwap(t *testing.T) {
	w := fresh(t, 5, 6)
	if !w.Swap(1, 0, 5, 8) {
		t.Error("a Swap from what is there is not done")
	}
	stands(t, w, []uint64{8, 6}, 1, api.Access{Client: 1, Kind: api.Swap, Was: 5, Put: 8, OK: true})
	if w.Swap(4, 1, 5, 9) {
		t.Error("a Swap from what is not there is done")
	}
	stands(t, w, []uint64{8, 6}, 2, api.Access{Client: 4, Kind: api.Swap, At: 1, Was: 6, Put: 9})
	// To what it is already, and from another word to that.
	if !w.Swap(1, 1, 6, 6) {
		t.Error("a Swap to the same is not done")
	}
	stands(t, w, []uint64{8, 6}, 3, api.Access{Client: 1, Kind: api.Swap, At: 1, Was: 6, Put: 6, OK: true})
	if w.Swap(1, 1, 7, 6) {
		t.Error("a Swap from another word is done, since its end is there already")
	}
	stands(t, w, []uint64{8, 6}, 4, api.Access{Client: 1, Kind: api.Swap, At: 1, Was: 6, Put: 6})
	if !w.Swap(1, 1, 6, 0) || !w.Swap(1, 1, 0, most) {
		t.Error("a Swap to 0, or from it, is not done")
	}
	stands(t, w, []uint64{8, most}, 6, api.Access{Client: 1, Kind: api.Swap, At: 1, Put: most, OK: true})
}

// P2.1: Add, also beyond the greatest word.
func TestAdd(t *testing.T) {
	for _, c := range []struct{ was, x, want uint64 }{
		{5, 2, 7}, {0, 0, 0}, {5, 0, 5}, {0, most, most},
		{most, 1, 0}, {most, 2, 1}, {most, most, most - 1}, {1 << 63, 1 << 63, 0}, {5, most, 4},
	} {
		w := fresh(t, 1, c.was, 2)
		if got := w.Add(6, 1, c.x); got != c.was {
			t.Errorf("Add(%d) to %d = %d", c.x, c.was, got)
		}
		// Put is what was added, not what came of it.
		stands(t, w, []uint64{1, c.want, 2}, 1, api.Access{Client: 6, Kind: api.Add, At: 1, Was: c.was, Put: c.x, OK: true})
	}
}

// P2.1: clients may be any, and one sees what the other one put.
func TestClientsAreAny(t *testing.T) {
	w := New(1)
	for i, c := range []int{0, 11, api.MaxClients, -1, math.MinInt, math.MaxInt} {
		x := uint64(i)
		if got := w.Add(c, 0, 1); got != x || w.Last().Client != c {
			t.Errorf("Add by %d = %d, last %+v", c, got, w.Last())
		}
	}
	stands(t, w, []uint64{6}, 6, api.Access{Client: math.MaxInt, Kind: api.Add, Was: 5, Put: 1, OK: true})
}

// The chapter's example.
func TestExample(t *testing.T) {
	w := New(2)
	if !w.Swap(0, 1, 0, 5) || w.Add(0, 1, 2) != 5 || w.Load(1, 1) != 7 || w.Steps() != 3 {
		t.Errorf("words %v behind %d steps", w.All(), w.Steps())
	}
}

// P2.1: out of place each access panics with a text, and is no step.
func TestOutOfPlacePanics(t *testing.T) {
	for _, n := range []int{0, 1, 3, api.MaxWords} {
		for _, at := range places(n) {
			if at >= 0 && at < n {
				continue
			}
			w := New(n)
			for kind, access := range accesses(w, at) {
				if text, ok := panicked(access).(string); !ok || text == "" {
					t.Errorf("%d words: %s at %d panicked without a text", n, kind, at)
				}
				stands(t, w, make([]uint64, n), 0, api.Access{})
			}
		}
	}
}

// P2.1: what was done ahead of a panic stays told, and more may be done behind it.
func TestStepsGoOnBehindPanic(t *testing.T) {
	w := fresh(t, 4, 5)
	w.Add(1, 1, 3)
	last := w.Last()
	for kind, access := range accesses(w, 2) {
		if panicked(access) == nil {
			t.Errorf("%s at 2 of 2 did not panic", kind)
		}
		stands(t, w, []uint64{4, 8}, 1, last)
	}
	w.Store(2, 0, 6)
	stands(t, w, []uint64{6, 8}, 2, api.Access{Client: 2, Kind: api.Store, Was: 4, Put: 6, OK: true})
}

// P2.1, P2.2: nil Words and those that nobody made have no words.
func TestNoWords(t *testing.T) {
	for name, w := range map[string]*Words{"nil": nil, "zero": {}} {
		for _, at := range []int{0, 1, -1, math.MaxInt, math.MinInt} {
			for kind, access := range accesses(w, at) {
				if text, ok := panicked(access).(string); !ok || text == "" {
					t.Errorf("%s: %s at %d panicked without a text", name, kind, at)
				}
			}
			if w.Look(at) != 0 || w.Put(at, 1) {
				t.Errorf("%s: there is a word at %d", name, at)
			}
		}
		if got := w.Len(); got != 0 {
			t.Errorf("%s: Len is %d", name, got)
		}
		stands(t, w, nil, 0, api.Access{})
	}
}

// P2.2: Look and Put are no steps.
func TestLookAndPut(t *testing.T) {
	w := New(3)
	w.Store(1, 0, 4)
	last := w.Last()
	for _, x := range []uint64{7, 0, most} {
		if !w.Put(2, x) || w.Look(2) != x || w.Look(0) != 4 || w.Look(1) != 0 {
			t.Errorf("Put of %d left %v", x, w.All())
		}
		stands(t, w, []uint64{4, 0, x}, 1, last)
	}
	if got := w.Load(2, 2); got != most {
		t.Errorf("Load of what was Put = %d", got)
	}
	stands(t, w, []uint64{4, 0, most}, 2, api.Access{Client: 2, Kind: api.Load, At: 2, Was: most, OK: true})
}

// P2.2: Look and Put where no word is.
func TestLookAndPutOutOfPlace(t *testing.T) {
	w := fresh(t, 8, 9)
	for _, at := range places(2) {
		if got := w.Look(at); got != 0 {
			t.Errorf("Look(%d) = %d", at, got)
		}
		if w.Put(at, 5) {
			t.Errorf("Put(%d) is done", at)
		}
		stands(t, w, []uint64{8, 9}, 0, api.Access{})
	}
}

// P2.2: All is new memory each time, its spare room too, and no step.
func TestAllIsNew(t *testing.T) {
	w := fresh(t, 1, 2, 3)
	first, second := w.All(), w.All()
	spoilt := first[:cap(first)]
	for i := range spoilt {
		spoilt[i] = 99
	}
	if !slices.Equal(second, []uint64{1, 2, 3}) {
		t.Errorf("two answers share memory: %v", second)
	}
	stands(t, w, []uint64{1, 2, 3}, 0, api.Access{})
	w.Put(0, 7)
	if second[0] != 1 {
		t.Error("an answer changes with the words")
	}
}

// P2.1: two rows of words share nothing.
func TestTwoWords(t *testing.T) {
	one, other := New(2), New(2)
	one.Store(1, 0, 5)
	stands(t, other, []uint64{0, 0}, 0, api.Access{})
	other.Add(2, 1, 3)
	stands(t, one, []uint64{5, 0}, 1, api.Access{Client: 1, Kind: api.Store, Put: 5, OK: true})
}

// P2.2: Guard of what ends and of nil.
func TestGuardOfWhatEnds(t *testing.T) {
	calls := 0
	if !Guard(func() { calls++ }) || calls != 1 {
		t.Errorf("f was called %d times, or is held to have panicked", calls)
	}
	if !Guard(nil) {
		t.Error("nil is held to have panicked")
	}
	if !Guard(func() { panicked(func() { panic("inside") }) }) {
		t.Error("what f recovered itself is held against it")
	}
	if !Guard(func() {
		if Guard(func() { panic("inside") }) {
			t.Error("a Guard within a Guard saw no panic")
		}
	}) {
		t.Error("a panic passed the Guard within")
	}
}

// P2.2: Guard of what panics, whatever with.
func TestGuardOfPanic(t *testing.T) {
	var none *Words
	var row []int
	for name, f := range map[string]func(){
		"a text":        func() { panic("text") },
		"an empty text": func() { panic("") },
		"an error":      func() { panic(errors.New("error")) },
		"an Errno":      func() { panic(api.OK) },
		"a number":      func() { panic(0) },
		"a bool":        func() { panic(true) },
		"nil":           func() { panic(nil) },
		"a nil pointer": func() { panic((*int)(nil)) },
		"no such place": func() { _ = row[len(row)] },
		"nil memory":    func() { _ = none.row },
		"a step":        func() { New(1).Load(0, 1) },
		"a nil step":    func() { none.Store(0, 0, 1) },
		"a second one": func() {
			defer func() { panic("second") }()
			panic("first")
		},
	} {
		if Guard(f) {
			t.Errorf("a panic with %s went unseen", name)
		}
	}
}

// P2.2: what f did ahead of its panic stays.
func TestGuardKeepsWhatWasDone(t *testing.T) {
	w := New(1)
	if Guard(func() {
		w.Store(3, 0, 5)
		w.Store(3, 1, 6)
	}) {
		t.Error("a panic went unseen")
	}
	stands(t, w, []uint64{5}, 1, api.Access{Client: 3, Kind: api.Store, Put: 5, OK: true})
	if !Guard(func() { w.Load(3, 0) }) {
		t.Error("a step in place panicked")
	}
	stands(t, w, []uint64{5}, 2, api.Access{Client: 3, Kind: api.Load, Was: 5, OK: true})
}
