package slot

import (
	"math"
	"math/rand"
	"testing"

	"allotment/api"
	"allotment/plan"
	"allotment/probe"
	"allotment/words"
)

// little is the shape of most tests. Its pages' words stand at 2, 3, 4, their slots from 5, 21 and 37 on.
var little = api.Shape{Pages: 3, Clients: 2, Mag: 1}

// great is the greatest shape that may be.
var great = api.Shape{Pages: api.MaxPages, Clients: api.MaxClients, Mag: api.MaxMag}

// slotsOf is how many slots each class has.
var slotsOf = [api.Classes]int{16, 8, 4, 2}

// pageWords is one of each kind that a page's word may be, for a shape of so many clients, and words that are none.
func pageWords(clients int) []uint64 {
	l := []uint64{
		0, probe.Held(0), probe.Held(clients - 1), probe.Large(1), probe.Body(0),
		probe.Super(4, 0), probe.Super(255, 0), probe.Super(0, clients), probe.Super(1, clients), probe.Super(2, 255), probe.Super(3, clients),
		5, 15, 16, math.MaxUint64, probe.Held(clients),
	}
	for class := range api.Classes {
		l = append(l, probe.Super(class, 0), probe.Super(class, clients-1), probe.Super(class, 0)+1<<20, probe.Super(class, 0)+1<<63, probe.Super(class, 0)+1)
	}
	return l
}

// slotWords is one of each kind that a slot's word may be, and words that are none.
func slotWords() []uint64 {
	l := []uint64{0, probe.Way(0), probe.Way(1), probe.Way(11), probe.Open(4), probe.Open(255), 4, 16, math.MaxUint64}
	for class := range api.Classes {
		l = append(l, probe.Open(class), probe.Taken(class), probe.Way(class), probe.Open(class)+1<<12, probe.Open(class)+1<<63)
	}
	return l
}

// laid makes the words of a shape: each page is a Super of the class, none of whose slots is open; beside its slots each word is one of an open slot.
func laid(s api.Shape, class int) *words.Words {
	w := words.New(plan.Words(s))
	for at := range w.Len() {
		w.Put(at, probe.Open(class))
	}
	for page := range s.Pages {
		w.Put(plan.Page(s, page), probe.Super(class, 0))
		for i := range slotsOf[class] {
			w.Put(plan.Slot(s, page, i), probe.Taken(class))
		}
	}
	return w
}

// is asks for Done and Found.
func is(t *testing.T, k *Claimer, done bool, page, slot int, ok bool) {
	t.Helper()
	if got := k.Done(); got != done {
		t.Fatalf("Done is %v, want %v", got, done)
	}
	if p, i, found := k.Found(); p != page || i != slot || found != ok {
		t.Fatalf("Found is %d, %d, %v, want %d, %d, %v", p, i, found, page, slot, ok)
	}
}

// under asks that a Claimer is on its way, with nothing found.
func under(t *testing.T, k *Claimer) {
	t.Helper()
	is(t, k, false, 0, 0, false)
}

// bare asks that a Claimer is Done with nothing found, and does nothing.
func bare(t *testing.T, k *Claimer) {
	t.Helper()
	probe.Idle(t, k, spread(), func() { is(t, k, true, 0, 0, false) })
}

// spread is more words than any shape has, each of them an open slot's.
func spread() *words.Words {
	w := words.New(api.MaxWords)
	for at := range w.Len() {
		w.Put(at, probe.Open(at%api.Classes))
	}
	return w
}

// does runs a Claimer over the words, and asks for each access and what is Found at each moment.
func does(t *testing.T, k *Claimer, w *words.Words, ahead func(int, *words.Words), want []api.Access, page, slot int, ok bool) {
	t.Helper()
	probe.Follows(t, k, w, ahead, want, func(did int) {
		t.Helper()
		if did < len(want) {
			under(t, k)
			return
		}
		is(t, k, true, page, slot, ok)
	})
}

// super is the class of a Super's word; false, if it is not one.
func super(s api.Shape, x uint64) (int, bool) {
	for class := range api.Classes {
		for by := range s.Clients {
			if x == probe.Super(class, by) {
				return class, true
			}
		}
	}
	return 0, false
}

// plays does what the chapter says in plain code.
func plays(p *probe.Plain, s api.Shape, c, class, first int) (page, slot int, ok bool) {
	for n := range s.Pages {
		page := (first + n) % s.Pages
		if is, ok := super(s, p.Load(c, plan.Page(s, page))); !ok || is != class {
			continue
		}
		for i := range slotsOf[class] {
			at := plan.Slot(s, page, i)
			if p.Load(c, at) == probe.Open(class) && p.Swap(c, at, probe.Open(class), probe.Way(c)) {
				return page, i, true
			}
		}
	}
	return 0, 0, false
}

// claims asks that a Claimer does what the chapter says over those words.
func claims(t *testing.T, s api.Shape, c, class, first int, w *words.Words, ahead func(int, *words.Words)) {
	t.Helper()
	p := &probe.Plain{Words: probe.Copy(w), Ahead: ahead}
	page, slot, ok := plays(p, s, c, class, first)
	does(t, NewClaimer(s, c, class, first), w, ahead, p.Did, page, slot, ok)
}

// The chapter's example.
func TestExample(t *testing.T) {
	s := api.Shape{Pages: 1, Clients: 1}
	w := words.New(plan.Words(s))
	w.Put(1, probe.Super(3, 0))
	w.Put(3, probe.Open(3))
	does(t, NewClaimer(s, 0, 3, 0), w, nil, []api.Access{
		probe.Loads(0, 1, probe.Super(3, 0)), probe.Loads(0, 2, 0), probe.Loads(0, 3, probe.Open(3)), probe.Swaps(0, 3, probe.Open(3), probe.Way(0)),
	}, 0, 1, true)
}

// P9.1: the page that has an open slot is first, in the midst, last, behind the round; there are several; there is none.
func TestClaimer(t *testing.T) {
	super, open, taken, way := probe.Super(3, 1), probe.Open(3), probe.Taken(3), probe.Way(0)
	load := func(at int, x uint64) api.Access { return probe.Loads(1, at, x) }
	swap := func(at int) api.Access { return probe.Swaps(1, at, open, probe.Way(1)) }
	for name, x := range map[string]struct {
		pages      [3]uint64
		slots      [3][2]uint64
		first      int
		want       []api.Access
		page, slot int
		ok         bool
	}{
		"first": {[3]uint64{super, 0, super}, [3][2]uint64{{open, open}, {}, {open, open}}, 0,
			[]api.Access{load(2, super), load(5, open), swap(5)}, 0, 0, true},
		"in the midst": {[3]uint64{0, super, super}, [3][2]uint64{{open, open}, {taken, open}, {open, open}}, 0,
			[]api.Access{load(2, 0), load(3, super), load(21, taken), load(22, open), swap(22)}, 1, 1, true},
		"last": {[3]uint64{super, super, super}, [3][2]uint64{{taken, way}, {way, 0}, {open, open}}, 0,
			[]api.Access{load(2, super), load(5, taken), load(6, way), load(3, super), load(21, way), load(22, 0), load(4, super), load(37, open), swap(37)}, 2, 0, true},
		"behind the round": {[3]uint64{0, super, super}, [3][2]uint64{{open, open}, {taken, open}, {way, way}}, 2,
			[]api.Access{load(4, super), load(37, way), load(38, way), load(2, 0), load(3, super), load(21, taken), load(22, open), swap(22)}, 1, 1, true},
		"only one round": {[3]uint64{super, 0, super}, [3][2]uint64{{taken, taken}, {open, open}, {way, way}}, 1,
			[]api.Access{load(3, 0), load(4, super), load(37, way), load(38, way), load(2, super), load(5, taken), load(6, taken)}, 0, 0, false},
		"other classes": {[3]uint64{probe.Super(2, 1), probe.Super(0, 0), probe.Super(1, 1)}, [3][2]uint64{{open, open}, {open, open}, {open, open}}, 1,
			[]api.Access{load(3, probe.Super(0, 0)), load(4, probe.Super(1, 1)), load(2, probe.Super(2, 1))}, 0, 0, false},
		"other kinds": {[3]uint64{probe.Held(1), probe.Large(2), probe.Body(1)}, [3][2]uint64{{open, open}, {open, open}, {open, open}}, 0,
			[]api.Access{load(2, probe.Held(1)), load(3, probe.Large(2)), load(4, probe.Body(1))}, 0, 0, false},
		"open of other classes": {[3]uint64{super, 0, 0}, [3][2]uint64{{probe.Open(2), probe.Open(0)}}, 0,
			[]api.Access{load(2, super), load(5, probe.Open(2)), load(6, probe.Open(0)), load(3, 0), load(4, 0)}, 0, 0, false},
	} {
		t.Run(name, func(t *testing.T) {
			w := laid(little, 3)
			for page := range 3 {
				w.Put(plan.Page(little, page), x.pages[page])
				for i, word := range x.slots[page] {
					w.Put(plan.Slot(little, page, i), word)
				}
			}
			does(t, NewClaimer(little, 1, 3, x.first), w, nil, x.want, x.page, x.slot, x.ok)
		})
	}
}

// P9.1: a page's word of each kind, ahead of a page that has an open slot; its own slots are all open.
func TestPageWords(t *testing.T) {
	for _, x := range pageWords(little.Clients) {
		for class := range api.Classes {
			for first := range 3 {
				w := laid(little, class)
				w.Put(plan.Page(little, first), x)
				for i := range api.MaxSlots {
					w.Put(plan.Slot(little, first, i), probe.Open(class))
				}
				w.Put(plan.Slot(little, (first+1)%3, slotsOf[class]-1), probe.Open(class))
				claims(t, little, 1, class, first, w, nil)
			}
		}
	}
}

// P9.1: a slot's word of each kind, ahead of one that is open.
func TestSlotWords(t *testing.T) {
	for _, x := range slotWords() {
		for class := range api.Classes {
			for i := range slotsOf[class] {
				w := laid(little, class)
				w.Put(plan.Slot(little, 1, i), x)
				w.Put(plan.Slot(little, 0, slotsOf[class]-1), probe.Open(class))
				claims(t, little, 0, class, 1, w, nil)
			}
		}
	}
}

// P9.1: the one open slot is each one of each page, and the Claimer begins at each page; also where there is none.
func TestOneOpenSlot(t *testing.T) {
	for pages := 1; pages <= 4; pages++ {
		s := api.Shape{Pages: pages, Clients: 3}
		for class, slots := range slotsOf {
			for first := range pages {
				claims(t, s, 2, class, first, laid(s, class), nil)
				for page := range pages {
					for i := range slots {
						w := laid(s, class)
						w.Put(plan.Slot(s, page, i), probe.Open(class))
						claims(t, s, 2, class, first, w, nil)
					}
				}
			}
		}
	}
}

// edges asks of the first and the last client, from the first page, one in the midst and the last one: no slot is open; the last one of the round is.
func edges(t *testing.T, s api.Shape, class int) {
	t.Helper()
	for _, c := range []int{0, s.Clients - 1} {
		for _, first := range []int{0, s.Pages / 2, s.Pages - 1} {
			claims(t, s, c, class, first, laid(s, class), nil)
			w := laid(s, class)
			w.Put(plan.Slot(s, (first+s.Pages-1)%s.Pages, slotsOf[class]-1), probe.Open(class))
			claims(t, s, c, class, first, w, nil)
		}
	}
}

// P9.1: the edges of the shape: the least one and the greatest, each class.
func TestEdgesOfTheShape(t *testing.T) {
	for _, s := range []api.Shape{{Pages: 1, Clients: 1}, little, {Pages: 2, Clients: api.MaxClients, Mag: api.MaxMag}, {Pages: api.MaxPages, Clients: 1}, great} {
		for class := range api.Classes {
			edges(t, s, class)
		}
	}
}

// P9.1: heaps of each number of pages.
func TestEachNumberOfPages(t *testing.T) {
	for pages := 1; pages <= api.MaxPages; pages++ {
		edges(t, api.Shape{Pages: pages, Clients: 2}, 3)
	}
}

// chance makes a memory of a shape by chance, in which open slots of the class are rare.
func chance(r *rand.Rand, s api.Shape, class int) *words.Words {
	w := laid(s, class)
	pages, slots := pageWords(s.Clients), slotWords()
	for page := range s.Pages {
		if r.Intn(3) == 0 {
			w.Put(plan.Page(s, page), pages[r.Intn(len(pages))])
		}
		for i := range api.MaxSlots {
			if r.Intn(2) == 0 {
				w.Put(plan.Slot(s, page, i), slots[r.Intn(len(slots))])
			}
		}
	}
	return w
}

// shape makes one by chance.
func shape(r *rand.Rand) api.Shape {
	return api.Shape{Pages: 1 + r.Intn(api.MaxPages), Clients: 1 + r.Intn(api.MaxClients), Mag: r.Intn(api.MaxMag + 1)}
}

// P9.1: memories by chance.
func TestChance(t *testing.T) {
	r := rand.New(rand.NewSource(9))
	for range 1500 {
		s := shape(r)
		class := r.Intn(api.Classes)
		claims(t, s, r.Intn(s.Clients), class, r.Intn(s.Pages), chance(r, s, class), nil)
	}
}

// P9.1: others turn pages and slots between its Steps.
func TestOthersTurn(t *testing.T) {
	r := rand.New(rand.NewSource(99))
	for n := range 1500 {
		s := shape(r)
		if n%2 == 0 {
			s.Pages = 1 + n%3
		}
		class := r.Intn(api.Classes)
		row := []uint64{probe.Super(class, 0), probe.Super(class, 0), probe.Open(class), probe.Open(class), probe.Taken(class), probe.Way(0), probe.Open(3 - class), 0}
		claims(t, s, r.Intn(s.Clients), class, r.Intn(s.Pages), chance(r, s, class), probe.Stir(uint64(n), row))
	}
}

// P9.1: each open slot that it looks at is gone when it swaps: it goes on with the next one, to the end of the round.
func TestEachSlotIsGone(t *testing.T) {
	for class, slots := range slotsOf {
		for first := range little.Pages {
			w := laid(little, class)
			for page := range little.Pages {
				for i := range slots {
					w.Put(plan.Slot(little, page, i), probe.Open(class))
				}
			}
			k := NewClaimer(little, 1, class, first)
			for n := range little.Pages {
				page := (first + n) % little.Pages
				under(t, k)
				probe.Step(t, k, w, probe.Loads(1, plan.Page(little, page), probe.Super(class, 0)))
				for i := range slots {
					at := plan.Slot(little, page, i)
					under(t, k)
					probe.Step(t, k, w, probe.Loads(1, at, probe.Open(class)))
					w.Put(at, probe.Way(0))
					under(t, k)
					probe.Step(t, k, w, probe.Misses(1, at, probe.Way(0), probe.Way(1)))
				}
			}
			probe.Idle(t, k, w, func() { is(t, k, true, 0, 0, false) })
		}
	}
}

// P9.1: it sees each word when it Loads it, neither sooner nor again.
func TestSeesWhatIsThereThen(t *testing.T) {
	w := laid(little, 3)
	k := NewClaimer(little, 0, 3, 0)
	w.Put(2, 0) // behind the making of the machine, ahead of its Load
	probe.Step(t, k, w, probe.Loads(0, 2, 0))
	w.Put(2, probe.Super(3, 0)) // behind its Load
	probe.Step(t, k, w, probe.Loads(0, 3, probe.Super(3, 0)))
	w.Put(3, 0) // it goes on with the page that it saw
	probe.Step(t, k, w, probe.Loads(0, 21, probe.Taken(3)))
	w.Put(21, probe.Open(3))
	probe.Step(t, k, w, probe.Loads(0, 22, probe.Taken(3)))
	probe.Step(t, k, w, probe.Loads(0, 4, probe.Super(3, 0)))
	w.Put(37, probe.Open(3))
	probe.Step(t, k, w, probe.Loads(0, 37, probe.Open(3)))
	w.Put(37, probe.Taken(3))
	probe.Step(t, k, w, probe.Misses(0, 37, probe.Taken(3), probe.Way(0)))
	w.Put(37, probe.Open(3)) // open again, but behind it
	w.Put(38, probe.Open(3))
	probe.Step(t, k, w, probe.Loads(0, 38, probe.Open(3)))
	w.Put(38, 0)
	w.Put(38, probe.Open(3)) // the Swap sees the word, not what came of it meanwhile
	under(t, k)
	probe.Step(t, k, w, probe.Swaps(0, 38, probe.Open(3), probe.Way(0)))
	w.Put(38, probe.Open(3))
	probe.Idle(t, k, w, func() { is(t, k, true, 2, 1, true) })
}

// A machine: of a shape that may not be it is Done at once.
func TestWrongShapes(t *testing.T) {
	for _, s := range probe.Shapes() {
		for class := range api.Classes {
			bare(t, NewClaimer(s, 0, class, 0))
		}
	}
}

// A machine: of a client that is not within the shape it is Done at once.
func TestWrongClients(t *testing.T) {
	for _, s := range []api.Shape{little, great, {Pages: 1, Clients: 1}} {
		for _, c := range probe.Beyond(s.Clients) {
			bare(t, NewClaimer(s, c, 0, 0))
			bare(t, NewClaimer(s, c, 3, s.Pages-1))
		}
	}
}

// A machine: of a class that is none it is Done at once.
func TestWrongClasses(t *testing.T) {
	for _, s := range []api.Shape{little, great} {
		for _, class := range append(probe.Beyond(api.Classes), 255) {
			bare(t, NewClaimer(s, 0, class, 0))
			bare(t, NewClaimer(s, s.Clients-1, class, s.Pages-1))
		}
	}
}

// P9.1: of a first page that is not within the shape it is Done at once.
func TestWrongFirstPages(t *testing.T) {
	for _, s := range []api.Shape{little, great, {Pages: 1, Clients: 1}} {
		for _, first := range probe.Beyond(s.Pages) {
			for class := range api.Classes {
				bare(t, NewClaimer(s, 0, class, first))
			}
		}
	}
}

// A machine: several arguments that may not be.
func TestSeveralWrong(t *testing.T) {
	for _, n := range []int{-1, math.MinInt, math.MaxInt, 1 << 32} {
		for _, s := range append(probe.Shapes(), little) {
			bare(t, NewClaimer(s, n, n, n))
			bare(t, NewClaimer(s, 0, n, n))
			bare(t, NewClaimer(s, n, 0, n))
			bare(t, NewClaimer(s, n, n, 0))
		}
	}
}

// R7: nil words. The Step panics, and the machine stands where it stood.
func TestNilWords(t *testing.T) {
	w := laid(little, 3)
	w.Put(6, probe.Open(3))
	k := NewClaimer(little, 0, 3, 0)
	for _, a := range []api.Access{
		probe.Loads(0, 2, probe.Super(3, 0)), probe.Loads(0, 5, probe.Taken(3)), probe.Loads(0, 6, probe.Open(3)), probe.Swaps(0, 6, probe.Open(3), probe.Way(0)),
	} {
		for range 2 {
			probe.Stuck(t, k, nil)
			under(t, k)
		}
		probe.Step(t, k, w, a)
	}
	is(t, k, true, 0, 1, true)
}

// A machine on words that are too few for the shape: an access that is out of place panics, those ahead of it do not.
func TestTooFewWords(t *testing.T) {
	for n := range plan.Words(little) + 1 {
		few, all := words.New(n), laid(little, 2)
		all.Put(plan.Slot(little, 0, 3), probe.Open(2))
		for at := range n {
			few.Put(at, all.Look(at))
		}
		p := &probe.Plain{Words: probe.Copy(all)}
		plays(p, little, 1, 2, 1)
		k := NewClaimer(little, 1, 2, 1)
		for _, a := range p.Did {
			under(t, k)
			if a.At < n {
				probe.Step(t, k, few, a)
				all.Put(a.At, few.Look(a.At))
				continue
			}
			probe.Stuck(t, k, few)
			under(t, k)
			probe.Step(t, k, all, a)
		}
		is(t, k, true, 0, 3, true)
	}
}

// R7: a nil machine answers zero values, and does nothing, whatever the words.
func TestNilMachine(t *testing.T) {
	var k *Claimer
	probe.Idle(t, k, spread(), func() { is(t, k, false, 0, 0, false) })
}

// R1: a machine that nobody made has no shape, so it is Done.
func TestZeroMachine(t *testing.T) {
	bare(t, &Claimer{})
}

// R5: two machines look at the same slot; one has it, the other goes on.
func TestTwoMachines(t *testing.T) {
	open, super := probe.Open(3), probe.Super(3, 0)
	w := laid(little, 3)
	w.Put(21, open)
	w.Put(38, open)
	one, other := NewClaimer(little, 0, 3, 1), NewClaimer(little, 1, 3, 1)
	probe.Step(t, one, w, probe.Loads(0, 3, super))
	probe.Step(t, other, w, probe.Loads(1, 3, super))
	probe.Step(t, one, w, probe.Loads(0, 21, open))
	probe.Step(t, other, w, probe.Loads(1, 21, open))
	probe.Step(t, other, w, probe.Swaps(1, 21, open, probe.Way(1)))
	is(t, other, true, 1, 0, true)
	under(t, one)
	probe.Step(t, one, w, probe.Misses(0, 21, probe.Way(1), probe.Way(0)))
	probe.Step(t, one, w, probe.Loads(0, 22, probe.Taken(3)))
	probe.Step(t, one, w, probe.Loads(0, 4, super))
	probe.Step(t, one, w, probe.Loads(0, 37, probe.Taken(3)))
	probe.Still(t, other, w)
	probe.Step(t, one, w, probe.Loads(0, 38, open))
	probe.Step(t, one, w, probe.Swaps(0, 38, open, probe.Way(0)))
	is(t, one, true, 2, 1, true)
	is(t, other, true, 1, 0, true)
}

// turns lets two machines take turns as the bits say, and asks that what each has was open, and is on its own way.
func turns(t *testing.T, w *words.Words, bits int) {
	t.Helper()
	was := w.All()
	k := [2]*Claimer{NewClaimer(little, 0, 3, bits%3), NewClaimer(little, 1, 3, bits>>2%3)}
	for n := range 40 {
		k[bits>>(n%14)&1].Step(w)
	}
	for range 20 {
		k[0].Step(w)
		k[1].Step(w)
	}
	open := 0
	for c := range k {
		if page, i, ok := k[c].Found(); ok {
			at := plan.Slot(little, page, i)
			if was[at] != probe.Open(3) || w.Look(at) != probe.Way(c) {
				t.Fatalf("turns %b: client %d has slot %d of page %d, which was %d and is %d", bits, c, i, page, was[at], w.Look(at))
			}
			was[at] = probe.Way(c)
			open++
		}
	}
	for at, x := range was {
		if w.Look(at) != x {
			t.Fatalf("turns %b: word %d is %d, want %d", bits, at, w.Look(at), x)
		}
	}
	if open == 0 {
		t.Fatalf("turns %b: neither has a slot", bits)
	}
}

// R5: two machines take turns in each way there is, and never have the same slot; whatever the order, one has one where there is one.
func TestTurns(t *testing.T) {
	for bits := range 1 << 14 {
		w := laid(little, 3)
		w.Put(plan.Slot(little, 1, 1), probe.Open(3))
		if bits%5 > 0 {
			w.Put(plan.Slot(little, 2, 0), probe.Open(3))
		}
		turns(t, w, bits)
	}
}

// R5: a machine goes from one row of words to another with what it has seen.
func TestAnotherRowOfWords(t *testing.T) {
	one, other := laid(little, 3), laid(little, 3)
	one.Put(5, probe.Open(3))
	k := NewClaimer(little, 0, 3, 0)
	probe.Step(t, k, one, probe.Loads(0, 2, probe.Super(3, 0)))
	probe.Step(t, k, one, probe.Loads(0, 5, probe.Open(3)))
	probe.Step(t, k, other, probe.Misses(0, 5, probe.Taken(3), probe.Way(0)))
	other.Put(6, probe.Open(3))
	probe.Step(t, k, other, probe.Loads(0, 6, probe.Open(3)))
	probe.Step(t, k, other, probe.Swaps(0, 6, probe.Open(3), probe.Way(0)))
	is(t, k, true, 0, 1, true)
}
