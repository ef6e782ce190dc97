// Package probe is what the tests of the machines share: which accesses a machine is to do, and whether it does these and no others. No other part of the program calls it.
package probe

import (
	"math"
	"slices"

	"allotment/api"
	"allotment/words"
)

// T is what is told that a test failed.
type T interface {
	Helper()
	Fatalf(format string, args ...any)
}

// Machine is what all machines have.
type Machine interface {
	Done() bool
	Step(w *words.Words)
}

// Loads is client c's Load at a place.
func Loads(c, at int, was uint64) api.Access {
	return api.Access{Client: c, Kind: api.Load, At: at, Was: was, OK: true}
}

// Stores is client c's Store at a place.
func Stores(c, at int, was, put uint64) api.Access {
	return api.Access{Client: c, Kind: api.Store, At: at, Was: was, Put: put, OK: true}
}

// Swaps is client c's Swap at a place, which is done.
func Swaps(c, at int, was, put uint64) api.Access {
	return api.Access{Client: c, Kind: api.Swap, At: at, Was: was, Put: put, OK: true}
}

// Misses is client c's Swap at a place, which is not done, since another word was there.
func Misses(c, at int, was, put uint64) api.Access {
	return api.Access{Client: c, Kind: api.Swap, At: at, Was: was, Put: put}
}

// Step asks that the machine's Step is that one access, and that nothing beside it is touched.
func Step(t T, m Machine, w *words.Words, want api.Access) {
	t.Helper()
	row, steps := w.All(), w.Steps()
	m.Step(w)
	if got := w.Steps() - steps; got != 1 || w.Last() != want {
		t.Fatalf("%d accesses, the last one %+v, want one: %+v", got, w.Last(), want)
	}
	switch {
	case want.Kind == api.Add:
		row[want.At] += want.Put
	case want.Kind != api.Load && want.OK:
		row[want.At] = want.Put
	}
	if got := w.All(); !slices.Equal(got, row) {
		t.Fatalf("behind %+v the words are %v, want %v", want, got, row)
	}
}

// Still asks that a Step does no access.
func Still(t T, m Machine, w *words.Words) {
	t.Helper()
	row, steps := w.All(), w.Steps()
	m.Step(w)
	if w.Steps() != steps || !slices.Equal(w.All(), row) {
		t.Fatalf("a Step that does nothing did %+v", w.Last())
	}
}

// Stuck asks that a Step panics, and is no access.
func Stuck(t T, m Machine, w *words.Words) {
	t.Helper()
	row, steps := w.All(), w.Steps()
	if words.Guard(func() { m.Step(w) }) {
		t.Fatalf("a Step on %d words does not panic", w.Len())
	}
	if w.Steps() != steps || !slices.Equal(w.All(), row) {
		t.Fatalf("a Step that panicked did %+v", w.Last())
	}
}

// Idle asks that a machine's Steps do nothing, whatever the words, and calls is ahead of the first and behind each.
func Idle(t T, m Machine, w *words.Words, is func()) {
	t.Helper()
	is()
	for _, w := range []*words.Words{w, w, words.New(0), nil} {
		Still(t, m, w)
		is()
	}
}

// Plain is words on which a chapter's sentences are played in plain code, one access behind another.
type Plain struct {
	Words *words.Words
	Ahead func(k int, w *words.Words) // what others do ahead of access k; nil, if nobody does anything
	Did   []api.Access                // what was done till now
}

// Load plays a Load.
func (p *Plain) Load(c, at int) uint64 {
	p.ahead()
	x := p.Words.Load(c, at)
	p.Did = append(p.Did, p.Words.Last())
	return x
}

// Store plays a Store.
func (p *Plain) Store(c, at int, x uint64) {
	p.ahead()
	p.Words.Store(c, at, x)
	p.Did = append(p.Did, p.Words.Last())
}

// Swap plays a Swap.
func (p *Plain) Swap(c, at int, was, x uint64) bool {
	p.ahead()
	ok := p.Words.Swap(c, at, was, x)
	p.Did = append(p.Did, p.Words.Last())
	return ok
}

func (p *Plain) ahead() {
	if p.Ahead != nil {
		p.Ahead(len(p.Did), p.Words)
	}
}

// Follows asks that a machine does these accesses, while others do the same as they did to the plain words. It calls is ahead of each Step, with the number of accesses that were done.
func Follows(t T, m Machine, w *words.Words, ahead func(k int, w *words.Words), want []api.Access, is func(did int)) {
	t.Helper()
	for k, a := range want {
		if ahead != nil {
			ahead(k, w)
		}
		is(k)
		Step(t, m, w, a)
	}
	Idle(t, m, w, func() { is(len(want)) })
}

// Copy is words of their own with the same in them.
func Copy(w *words.Words) *words.Words {
	c := words.New(w.Len())
	for at, x := range w.All() {
		c.Put(at, x)
	}
	return c
}

// Shapes is shapes that may not be.
func Shapes() []api.Shape {
	l := []api.Shape{{}}
	for _, n := range []int{0, -1, math.MinInt, math.MinInt + 1, math.MaxInt, math.MaxInt - 1, 1 << 32, 1<<32 + 1} {
		l = append(l, api.Shape{Pages: n, Clients: 2, Mag: 3}, api.Shape{Pages: 2, Clients: n, Mag: 3})
		if n != 0 {
			l = append(l, api.Shape{Pages: 2, Clients: 2, Mag: n})
		}
	}
	return append(l,
		api.Shape{Pages: api.MaxPages + 1, Clients: 2, Mag: 3},
		api.Shape{Pages: 2, Clients: api.MaxClients + 1, Mag: 3},
		api.Shape{Pages: 2, Clients: 2, Mag: api.MaxMag + 1})
}

// Beyond is numbers below 0, and n and more; some are in place by their lowest bits.
func Beyond(n int) []int {
	return []int{-1, -2, -256, n, n + 1, 256, 257, 4096, 1 << 20, 1 << 32, 1<<32 + 1, math.MinInt, math.MinInt + 1, math.MaxInt, math.MaxInt - 1}
}

// Held is the word of a page that client c holds. (This and the following ones are by their numbers, as chapter 4 has them, so that a test's words are not made by what it tests.)
func Held(c int) uint64 { return 1 + 16*uint64(c) }

// Super is the word of a page of a class, bound by a client.
func Super(class, by int) uint64 { return 2 + 16*uint64(class) + 4096*uint64(by) }

// Large is the word of the head of a block of n pages.
func Large(n int) uint64 { return 3 + 16*uint64(n) }

// Body is the word of a page behind that head.
func Body(head int) uint64 { return 4 + 16*uint64(head) }

// Open is the word of a slot that is open, of that class.
func Open(class int) uint64 { return 1 + 16*uint64(class) }

// Way is the word of a slot on client c's way.
func Way(c int) uint64 { return 2 + 16*uint64(c) }

// Taken is the word of a slot that is taken, of that class.
func Taken(class int) uint64 { return 3 + 16*uint64(class) }

// Entry is the word of a magazine's entry.
func Entry(page, slot, class int) uint64 {
	return 1 + 16*uint64(page) + 4096*uint64(slot) + 1<<20*uint64(class)
}

// Stir makes what others do: ahead of some accesses they put one of these words somewhere, often where the last access was. The same number makes the same ones.
func Stir(number uint64, row []uint64) func(k int, w *words.Words) {
	return func(k int, w *words.Words) {
		x := Mix(Mix(number) + uint64(k))
		if x%3 == 0 || w.Len() == 0 {
			return
		}
		at := int(x >> 8 % uint64(w.Len()))
		if x>>4%2 == 0 {
			at = w.Last().At
		}
		w.Put(at, row[x>>32%uint64(len(row))])
	}
}

// Mix makes a number that looks like any other out of a number.
func Mix(x uint64) uint64 {
	x += 0x9e3779b97f4a7c15
	x = (x ^ x>>30) * 0xbf58476d1ce4e5b9
	x = (x ^ x>>27) * 0x94d049bb133111eb
	return x ^ x>>31
}
