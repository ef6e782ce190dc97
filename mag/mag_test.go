package mag

import (
	"math"
	"math/rand"
	"slices"
	"testing"

	"allotment/api"
	"allotment/plan"
	"allotment/probe"
	"allotment/words"
)

// little is the shape of most tests. Its client 0 has its entries at 36, 37, 38, its client 1 at 39, 40, 41.
var little = api.Shape{Pages: 2, Clients: 2, Mag: 3}

// great is the greatest shape that may be.
var great = api.Shape{Pages: api.MaxPages, Clients: api.MaxClients, Mag: api.MaxMag}

// item is a word of a magazine, and what it says: an entry (of a page, a slot, a class), or none.
type item struct {
	word              uint64
	page, slot, class int
	is                bool
}

// of is an item that is an entry.
func of(page, slot, class int) item {
	return item{probe.Entry(page, slot, class), page, slot, class, true}
}

// items is one of each kind, for a shape of 2 pages: an entry of each class, no entry, and words that are none.
func items() []item {
	l := []item{{}, of(1, 15, 0), of(0, 7, 1), of(1, 3, 2), of(0, 1, 3)}
	for _, w := range noEntries() {
		l = append(l, item{word: w})
	}
	return l
}

// noEntries is words that are not 0, and are no entry of a shape of 2 pages: beyond its pages, beyond a class's slots, beyond the classes, of another kind, with a bit beyond the fields.
func noEntries() []uint64 {
	return []uint64{
		probe.Entry(2, 0, 0), probe.Entry(255, 1, 3), probe.Entry(0, 16, 0), probe.Entry(0, 8, 1), probe.Entry(1, 4, 2), probe.Entry(0, 2, 3), probe.Entry(0, 0, 4), probe.Entry(1, 1, 255),
		2, 16, probe.Entry(1, 2, 0) + 1, probe.Entry(1, 2, 0) - 1, 1<<28 + 1, 1<<63 + 1, math.MaxUint64,
	}
}

// wordsOf is the items' words.
func wordsOf(l []item) []uint64 {
	var row []uint64
	for _, x := range l {
		row = append(row, x.word)
	}
	return row
}

// laid makes the words of a shape, with these in c's magazine, and others all around, so that a look aside is seen: beside the magazine each word is an entry of a class of its own.
func laid(t *testing.T, s api.Shape, c int, row ...uint64) *words.Words {
	t.Helper()
	w := words.New(plan.Words(s))
	for at := range w.Len() {
		w.Put(at, probe.Entry(0, 0, at%api.Classes))
	}
	if len(row) != s.Mag {
		t.Fatalf("%d words for a magazine of %d", len(row), s.Mag)
	}
	for i, x := range row {
		w.Put(plan.Mag(s, c, i), x)
	}
	return w
}

// takerIs asks for Done and Found.
func takerIs(t *testing.T, k *Taker, done bool, page, slot int, ok bool) {
	t.Helper()
	if got := k.Done(); got != done {
		t.Fatalf("Done is %v, want %v", got, done)
	}
	if p, x, found := k.Found(); p != page || x != slot || found != ok {
		t.Fatalf("Found is %d, %d, %v, want %d, %d, %v", p, x, found, page, slot, ok)
	}
}

// putterIs asks for Done and Put.
func putterIs(t *testing.T, p *Putter, done, put bool) {
	t.Helper()
	if d, x := p.Done(), p.Put(); d != done || x != put {
		t.Fatalf("Done, Put are %v, %v, want %v, %v", d, x, done, put)
	}
}

// under asks that a Taker is on its way, with nothing found.
func under(t *testing.T, k *Taker) {
	t.Helper()
	takerIs(t, k, false, 0, 0, false)
}

// bare asks that a Taker is Done with nothing found, and does nothing more.
func bare(t *testing.T, k *Taker, w *words.Words) {
	t.Helper()
	probe.Idle(t, k, w, func() { takerIs(t, k, true, 0, 0, false) })
}

// refused asks that a Putter is Done and did not put, and does nothing more.
func refused(t *testing.T, p *Putter, w *words.Words) {
	t.Helper()
	probe.Idle(t, p, w, func() { putterIs(t, p, true, false) })
}

// takes runs a Taker over the words, and asks for each access and what is Found at each moment.
func takes(t *testing.T, s api.Shape, c, class int, w *words.Words, want []api.Access, page, slot int, ok bool) {
	t.Helper()
	k := NewTaker(s, c, class)
	for _, a := range want {
		under(t, k)
		probe.Step(t, k, w, a)
	}
	probe.Idle(t, k, w, func() { takerIs(t, k, true, page, slot, ok) })
}

// puts runs a Putter over the words, and asks for each access and whether it is Put at each moment.
func puts(t *testing.T, s api.Shape, c int, x item, w *words.Words, want []api.Access, ok bool) {
	t.Helper()
	p := NewPutter(s, c, x.page, x.slot, x.class)
	for _, a := range want {
		putterIs(t, p, false, false)
		probe.Step(t, p, w, a)
	}
	probe.Idle(t, p, w, func() { putterIs(t, p, true, ok) })
}

// takesOf asks that a Taker does what the chapter says of a magazine of these items.
func takesOf(t *testing.T, s api.Shape, c, class int, l []item) {
	t.Helper()
	var want []api.Access
	var last item
	for i, x := range l {
		at := plan.Mag(s, c, i)
		want = append(want, probe.Loads(c, at, x.word))
		if x.is && x.class == class {
			want = append(want, probe.Stores(c, at, x.word, 0))
			last = x
			break
		}
	}
	takes(t, s, c, class, laid(t, s, c, wordsOf(l)...), want, last.page, last.slot, last.is)
}

// putsOf asks that a Putter does what the chapter says of a magazine of these words.
func putsOf(t *testing.T, s api.Shape, c int, x item, row []uint64) {
	t.Helper()
	var want []api.Access
	put := false
	for i, was := range row {
		at := plan.Mag(s, c, i)
		want = append(want, probe.Loads(c, at, was))
		if was == 0 {
			want = append(want, probe.Stores(c, at, 0, x.word))
			put = true
			break
		}
	}
	puts(t, s, c, x, laid(t, s, c, row...), want, put)
}

// spread is more words than any shape has, each of them free or an entry of class 0 by turns.
func spread() *words.Words {
	w := words.New(api.MaxWords)
	for at := 0; at < w.Len(); at += 2 {
		w.Put(at, probe.Entry(0, 0, 0))
	}
	return w
}

// The chapter's example.
func TestExample(t *testing.T) {
	row := []uint64{0, probe.Entry(0, 4, 1), probe.Entry(1, 2, 0)}
	takes(t, little, 0, 0, laid(t, little, 0, row...), []api.Access{
		probe.Loads(0, 36, 0), probe.Loads(0, 37, probe.Entry(0, 4, 1)), probe.Loads(0, 38, probe.Entry(1, 2, 0)), probe.Stores(0, 38, probe.Entry(1, 2, 0), 0),
	}, 1, 2, true)
}

// P8.1: the class that is looked for is first, in the midst, last, there twice, not there.
func TestTaker(t *testing.T) {
	a, b, other, none := probe.Entry(1, 3, 2), probe.Entry(0, 1, 2), probe.Entry(0, 0, 0), uint64(2)
	for name, x := range map[string]struct {
		row        []uint64
		want       []api.Access
		page, slot int
		ok         bool
	}{
		"first":        {[]uint64{a, 0, other}, []api.Access{probe.Loads(1, 39, a), probe.Stores(1, 39, a, 0)}, 1, 3, true},
		"in the midst": {[]uint64{other, a, 0}, []api.Access{probe.Loads(1, 39, other), probe.Loads(1, 40, a), probe.Stores(1, 40, a, 0)}, 1, 3, true},
		"last":         {[]uint64{none, 0, a}, []api.Access{probe.Loads(1, 39, none), probe.Loads(1, 40, 0), probe.Loads(1, 41, a), probe.Stores(1, 41, a, 0)}, 1, 3, true},
		"twice":        {[]uint64{0, b, a}, []api.Access{probe.Loads(1, 39, 0), probe.Loads(1, 40, b), probe.Stores(1, 40, b, 0)}, 0, 1, true},
		"not there":    {[]uint64{other, 0, none}, []api.Access{probe.Loads(1, 39, other), probe.Loads(1, 40, 0), probe.Loads(1, 41, none)}, 0, 0, false},
		"nothing":      {[]uint64{0, 0, 0}, []api.Access{probe.Loads(1, 39, 0), probe.Loads(1, 40, 0), probe.Loads(1, 41, 0)}, 0, 0, false},
	} {
		t.Run(name, func(t *testing.T) { takes(t, little, 1, 2, laid(t, little, 1, x.row...), x.want, x.page, x.slot, x.ok) })
	}
}

// P8.2: the place that is free is first, in the midst, last; there are several; there is none.
func TestPutter(t *testing.T) {
	a, b, none := probe.Entry(1, 3, 2), probe.Entry(0, 0, 0), uint64(2)
	x := of(1, 7, 1)
	for name, c := range map[string]struct {
		row  []uint64
		want []api.Access
		ok   bool
	}{
		"first":        {[]uint64{0, a, b}, []api.Access{probe.Loads(1, 39, 0), probe.Stores(1, 39, 0, x.word)}, true},
		"in the midst": {[]uint64{a, 0, b}, []api.Access{probe.Loads(1, 39, a), probe.Loads(1, 40, 0), probe.Stores(1, 40, 0, x.word)}, true},
		"last":         {[]uint64{a, none, 0}, []api.Access{probe.Loads(1, 39, a), probe.Loads(1, 40, none), probe.Loads(1, 41, 0), probe.Stores(1, 41, 0, x.word)}, true},
		"several":      {[]uint64{none, 0, 0}, []api.Access{probe.Loads(1, 39, none), probe.Loads(1, 40, 0), probe.Stores(1, 40, 0, x.word)}, true},
		"all":          {[]uint64{0, 0, 0}, []api.Access{probe.Loads(1, 39, 0), probe.Stores(1, 39, 0, x.word)}, true},
		"full":         {[]uint64{a, b, x.word}, []api.Access{probe.Loads(1, 39, a), probe.Loads(1, 40, b), probe.Loads(1, 41, x.word)}, false},
		"no entries":   {[]uint64{none, 16, math.MaxUint64}, []api.Access{probe.Loads(1, 39, none), probe.Loads(1, 40, 16), probe.Loads(1, 41, math.MaxUint64)}, false},
	} {
		t.Run(name, func(t *testing.T) { puts(t, little, 1, x, laid(t, little, 1, c.row...), c.want, c.ok) })
	}
}

// each calls f with each magazine of n of the items.
func each(n int, l []item, f func(row []item)) {
	if n == 0 {
		f(nil)
		return
	}
	each(n-1, l, func(row []item) {
		for _, x := range l {
			f(append(slices.Clone(row), x))
		}
	})
}

// P8.1, P8.2: all magazines of 1 to 3 entries, of each client, for each class.
func TestAllMagazines(t *testing.T) {
	for n, l := range map[int][]item{1: items(), 2: items(), 3: items()[:8]} {
		s := api.Shape{Pages: 2, Clients: 2, Mag: n}
		each(n, l, func(row []item) {
			for c := range s.Clients {
				for class := range api.Classes {
					takesOf(t, s, c, class, row)
					putsOf(t, s, c, of(1, 1, class), wordsOf(row))
				}
			}
		})
	}
}

// P8.1, P8.2: magazines of each size from 1 to MaxMag, of items by chance.
func TestMagazinesOfEachSize(t *testing.T) {
	chance := rand.New(rand.NewSource(8))
	l := items()
	for n := 1; n <= api.MaxMag; n++ {
		s := api.Shape{Pages: 2, Clients: 5, Mag: n}
		for range 400 {
			row := make([]item, n)
			for i := range row {
				row[i] = l[chance.Intn(len(l))]
			}
			takesOf(t, s, chance.Intn(s.Clients), chance.Intn(api.Classes), row)
			putsOf(t, s, chance.Intn(s.Clients), l[1+chance.Intn(4)], wordsOf(row))
		}
	}
}

// P8.1, P8.2: magazines of each size with but one word that counts, at each of their places: the one entry of the class, the one free place.
func TestOnePlace(t *testing.T) {
	for n := 1; n <= api.MaxMag; n++ {
		s := api.Shape{Pages: 2, Clients: 3, Mag: n}
		for i := range n {
			row := make([]item, n)
			for j := range row {
				row[j] = of(0, 1, 3)
			}
			row[i] = of(1, 0, 0)
			takesOf(t, s, 2, 0, row)
			row[i] = item{}
			putsOf(t, s, 2, of(1, 0, 0), wordsOf(row))
			row[i] = of(0, 0, 3)
			takesOf(t, s, 2, 0, row)
			putsOf(t, s, 2, of(1, 0, 0), wordsOf(row))
		}
	}
}

// P8.1: what is no entry is passed by, though a class may be read from it.
func TestTakerPassesByNoEntries(t *testing.T) {
	for _, w := range noEntries() {
		for class := range api.Classes {
			takesOf(t, little, 0, class, []item{{word: w}, {word: w}, of(1, 1, class)})
		}
	}
}

// P8.2: what is no entry is no free place either.
func TestPutterPassesByNoEntries(t *testing.T) {
	for _, w := range append(noEntries(), probe.Entry(0, 0, 0)) {
		putsOf(t, little, 0, of(1, 0, 0), []uint64{w, w, 0})
	}
}

// P8.1, P8.2: the first and the last page, the first and the last slot of each class, in the least shape, in a little one and in the greatest; the first and the last client.
func TestEdgesOfTheShape(t *testing.T) {
	for _, s := range []api.Shape{{Pages: 1, Clients: 1, Mag: 1}, little, great, {Pages: api.MaxPages, Clients: 1, Mag: 1}, {Pages: 1, Clients: api.MaxClients, Mag: api.MaxMag}} {
		for class, slots := range []int{16, 8, 4, 2} {
			for _, c := range []int{0, s.Clients - 1} {
				for _, page := range []int{0, s.Pages - 1} {
					for _, slot := range []int{0, slots - 1} {
						last := make([]item, s.Mag)
						last[s.Mag-1] = of(page, slot, class)
						takesOf(t, s, c, class, last)
						takesOf(t, s, c, (class+1)%api.Classes, last)
						row := slices.Repeat([]uint64{5}, s.Mag)
						row[s.Mag-1] = 0
						putsOf(t, s, c, of(page, slot, class), row)
					}
				}
			}
		}
	}
}

// P8.1, P8.2: a magazine without entries.
func TestNoEntries(t *testing.T) {
	for _, s := range []api.Shape{{Pages: 1, Clients: 1}, {Pages: 2, Clients: 3}, {Pages: api.MaxPages, Clients: api.MaxClients}} {
		for class := range api.Classes {
			bare(t, NewTaker(s, s.Clients-1, class), spread())
			refused(t, NewPutter(s, s.Clients-1, 0, 0, class), spread())
		}
	}
}

// P8.2, then P8.1: what a Putter put, a Taker finds.
func TestTakerFindsWhatPutterPut(t *testing.T) {
	for class, slots := range []int{16, 8, 4, 2} {
		for page := range 2 {
			for slot := range slots {
				w := words.New(plan.Words(little))
				p := NewPutter(little, 1, page, slot, class)
				for range 2 {
					p.Step(w)
				}
				putterIs(t, p, true, true)
				word := probe.Entry(page, slot, class)
				takes(t, little, 1, class, w, []api.Access{probe.Loads(1, 39, word), probe.Stores(1, 39, word, 0)}, page, slot, true)
				takes(t, little, 1, class, w, []api.Access{probe.Loads(1, 39, 0), probe.Loads(1, 40, 0), probe.Loads(1, 41, 0)}, 0, 0, false)
			}
		}
	}
}

// A machine: of a shape that may not be it is Done at once.
func TestWrongShapes(t *testing.T) {
	for _, s := range probe.Shapes() {
		for class := range api.Classes {
			bare(t, NewTaker(s, 0, class), spread())
			refused(t, NewPutter(s, 0, 0, 0, class), spread())
		}
	}
}

// A machine: of a client that is not within the shape it is Done at once.
func TestWrongClients(t *testing.T) {
	for _, s := range []api.Shape{little, great, {Pages: 1, Clients: 1, Mag: 1}} {
		for _, c := range probe.Beyond(s.Clients) {
			for class := range api.Classes {
				bare(t, NewTaker(s, c, class), spread())
				refused(t, NewPutter(s, c, 0, 0, class), spread())
			}
		}
	}
}

// A machine: of a class that is none it is Done at once.
func TestWrongClasses(t *testing.T) {
	for _, s := range []api.Shape{little, great} {
		for _, class := range append(probe.Beyond(api.Classes), 255) {
			bare(t, NewTaker(s, 0, class), spread())
			refused(t, NewPutter(s, 0, 0, 0, class), spread())
			w := laid(t, s, 0, slices.Repeat([]uint64{probe.Entry(0, 0, class&255)}, s.Mag)...)
			bare(t, NewTaker(s, 0, class), w)
		}
	}
}

// A machine: a Putter of a page that is not within the shape is Done at once.
func TestWrongPages(t *testing.T) {
	for _, s := range []api.Shape{little, great, {Pages: 1, Clients: 1, Mag: 1}} {
		for _, page := range append(probe.Beyond(s.Pages), 255) {
			for class := range api.Classes {
				refused(t, NewPutter(s, 0, page, 0, class), spread())
			}
		}
	}
}

// A machine: a Putter of a slot that is not below Slots of its class is Done at once.
func TestWrongSlots(t *testing.T) {
	for class, slots := range []int{16, 8, 4, 2} {
		for _, slot := range append(probe.Beyond(slots), 16, 255) {
			refused(t, NewPutter(little, 0, 1, slot, class), spread())
			refused(t, NewPutter(great, api.MaxClients-1, api.MaxPages-1, slot, class), spread())
		}
	}
}

// A machine: several arguments that may not be.
func TestSeveralWrong(t *testing.T) {
	for _, n := range []int{-1, math.MinInt, math.MaxInt, 1 << 32} {
		for _, s := range append(probe.Shapes(), little) {
			bare(t, NewTaker(s, n, n), spread())
			refused(t, NewPutter(s, n, n, n, n), spread())
		}
	}
}

// R7: nil words. The Step panics, and the machine stands where it stood.
func TestNilWords(t *testing.T) {
	w := laid(t, little, 0, 0, probe.Entry(1, 2, 0), 0)
	k := NewTaker(little, 0, 0)
	for _, a := range []api.Access{probe.Loads(0, 36, 0), probe.Loads(0, 37, probe.Entry(1, 2, 0)), probe.Stores(0, 37, probe.Entry(1, 2, 0), 0)} {
		for range 2 {
			probe.Stuck(t, k, nil)
			under(t, k)
		}
		probe.Step(t, k, w, a)
	}
	takerIs(t, k, true, 1, 2, true)

	w = laid(t, little, 0, 5, 0, 0)
	p := NewPutter(little, 0, 1, 2, 0)
	for _, a := range []api.Access{probe.Loads(0, 36, 5), probe.Loads(0, 37, 0), probe.Stores(0, 37, 0, probe.Entry(1, 2, 0))} {
		for range 2 {
			probe.Stuck(t, p, nil)
			putterIs(t, p, false, false)
		}
		probe.Step(t, p, w, a)
	}
	putterIs(t, p, true, true)
}

// A machine on words that are too few for the shape: the access that is out of place panics, those ahead of it do not.
func TestTooFewWords(t *testing.T) {
	s := api.Shape{Pages: 1, Clients: 2, Mag: 4}
	first := plan.Mag(s, 1, 0)
	last := probe.Entry(0, 9, 0)
	for n := range plan.Words(s) + 1 {
		few, all := words.New(n), laid(t, s, 1, 6, 6, 6, last)
		for at := range n {
			few.Put(at, all.Look(at))
		}
		k := NewTaker(s, 1, 0)
		for i := range 4 {
			under(t, k)
			if first+i >= n {
				probe.Stuck(t, k, few)
				under(t, k)
				probe.Step(t, k, all, probe.Loads(1, first+i, all.Look(first+i)))
				continue
			}
			probe.Step(t, k, few, probe.Loads(1, first+i, few.Look(first+i)))
		}
		under(t, k)
		if n < plan.Words(s) {
			probe.Stuck(t, k, few)
			under(t, k)
			probe.Step(t, k, all, probe.Stores(1, first+3, last, 0))
		} else {
			probe.Step(t, k, few, probe.Stores(1, first+3, last, 0))
		}
		takerIs(t, k, true, 0, 9, true)
	}
}

// The same of a Putter.
func TestTooFewWordsToPut(t *testing.T) {
	s := api.Shape{Pages: 1, Clients: 2, Mag: 2}
	first := plan.Mag(s, 1, 0)
	for n := range first + 2 {
		few, all := words.New(n), laid(t, s, 1, 6, 0)
		p := NewPutter(s, 1, 0, 1, 3)
		if n <= first {
			probe.Stuck(t, p, few)
			putterIs(t, p, false, false)
		}
		probe.Step(t, p, all, probe.Loads(1, first, 6))
		probe.Stuck(t, p, few)
		probe.Step(t, p, all, probe.Loads(1, first+1, 0))
		probe.Stuck(t, p, few)
		putterIs(t, p, false, false)
		probe.Step(t, p, all, probe.Stores(1, first+1, 0, probe.Entry(0, 1, 3)))
		putterIs(t, p, true, true)
	}
}

// R7: nil machines answer zero values, and do nothing, whatever the words.
func TestNilMachines(t *testing.T) {
	var k *Taker
	var p *Putter
	for _, w := range []*words.Words{nil, words.New(0), spread()} {
		for range 2 {
			takerIs(t, k, false, 0, 0, false)
			probe.Still(t, k, w)
			putterIs(t, p, false, false)
			probe.Still(t, p, w)
		}
	}
}

// R1: a machine that nobody made has no shape, so it is Done.
func TestZeroMachines(t *testing.T) {
	bare(t, &Taker{}, spread())
	refused(t, &Putter{}, spread())
}

// A machine sees each word when it Loads it, neither sooner nor again.
func TestSeesWhatIsThereThen(t *testing.T) {
	w := laid(t, little, 0, 0, 0, 0)
	k := NewTaker(little, 0, 1)
	probe.Step(t, k, w, probe.Loads(0, 36, 0))
	w.Put(36, probe.Entry(0, 3, 1)) // behind it: it does not look back
	w.Put(38, probe.Entry(1, 4, 1)) // ahead of it: it was not there when the machine was made
	probe.Step(t, k, w, probe.Loads(0, 37, 0))
	probe.Step(t, k, w, probe.Loads(0, 38, probe.Entry(1, 4, 1)))
	w.Put(38, probe.Entry(0, 5, 1)) // what is Found is what it saw
	under(t, k)
	probe.Step(t, k, w, probe.Stores(0, 38, probe.Entry(0, 5, 1), 0))
	takerIs(t, k, true, 1, 4, true)
	w.Put(38, probe.Entry(0, 5, 1))
	probe.Still(t, k, w)
	takerIs(t, k, true, 1, 4, true)

	w = laid(t, little, 0, 5, 0, 0)
	p := NewPutter(little, 0, 1, 6, 1)
	probe.Step(t, p, w, probe.Loads(0, 36, 5))
	w.Put(36, 0)
	w.Put(37, 7)
	probe.Step(t, p, w, probe.Loads(0, 37, 7))
	probe.Step(t, p, w, probe.Loads(0, 38, 0))
	w.Put(38, 9) // it is a Store, not a Swap
	probe.Step(t, p, w, probe.Stores(0, 38, 9, probe.Entry(1, 6, 1)))
	putterIs(t, p, true, true)
	w.Put(38, 0)
	probe.Still(t, p, w)
	putterIs(t, p, true, true)
}

// R5: two machines of one client over one magazine; each knows only what it saw itself.
func TestTwoMachinesOfOneClient(t *testing.T) {
	a, b := probe.Entry(0, 3, 1), probe.Entry(1, 4, 1)
	w := laid(t, little, 0, a, b, 0)
	one, other := NewTaker(little, 0, 1), NewTaker(little, 0, 1)
	probe.Step(t, one, w, probe.Loads(0, 36, a))
	probe.Step(t, other, w, probe.Loads(0, 36, a))
	probe.Step(t, one, w, probe.Stores(0, 36, a, 0))
	takerIs(t, one, true, 0, 3, true)
	under(t, other)
	probe.Step(t, other, w, probe.Stores(0, 36, 0, 0))
	takerIs(t, other, true, 0, 3, true)

	w = laid(t, little, 0, a, b, 0)
	one, other = NewTaker(little, 0, 1), NewTaker(little, 0, 1)
	probe.Step(t, one, w, probe.Loads(0, 36, a))
	probe.Step(t, one, w, probe.Stores(0, 36, a, 0))
	probe.Step(t, other, w, probe.Loads(0, 36, 0))
	probe.Step(t, other, w, probe.Loads(0, 37, b))
	probe.Still(t, one, w)
	probe.Step(t, other, w, probe.Stores(0, 37, b, 0))
	takerIs(t, one, true, 0, 3, true)
	takerIs(t, other, true, 1, 4, true)

	w = laid(t, little, 0, 0, 0, b)
	k, p, q := NewTaker(little, 0, 1), NewPutter(little, 0, 0, 3, 1), NewPutter(little, 0, 1, 1, 3)
	probe.Step(t, p, w, probe.Loads(0, 36, 0))
	probe.Step(t, q, w, probe.Loads(0, 36, 0))
	probe.Step(t, p, w, probe.Stores(0, 36, 0, a))
	probe.Step(t, k, w, probe.Loads(0, 36, a))
	probe.Step(t, q, w, probe.Stores(0, 36, a, probe.Entry(1, 1, 3)))
	probe.Step(t, k, w, probe.Stores(0, 36, probe.Entry(1, 1, 3), 0))
	takerIs(t, k, true, 0, 3, true)
	putterIs(t, p, true, true)
	putterIs(t, q, true, true)
}

// R5: machines of two clients take turns in each way there is, and each does what it does alone.
func TestTurns(t *testing.T) {
	a, b := probe.Entry(0, 3, 1), probe.Entry(1, 1, 3)
	takers := []api.Access{probe.Loads(0, 36, 0), probe.Loads(0, 37, b), probe.Loads(0, 38, a), probe.Stores(0, 38, a, 0)}
	putters := []api.Access{probe.Loads(1, 39, a), probe.Loads(1, 40, b), probe.Loads(1, 41, 0), probe.Stores(1, 41, 0, probe.Entry(1, 15, 0))}
	for bits := range 1 << 8 {
		w := laid(t, little, 0, 0, b, a)
		for i, x := range []uint64{a, b, 0} {
			w.Put(39+i, x)
		}
		k, p := NewTaker(little, 0, 1), NewPutter(little, 1, 1, 15, 0)
		left, right := takers, putters
		for i := range 8 {
			if len(right) == 0 || len(left) > 0 && bits>>i&1 == 0 {
				under(t, k)
				probe.Step(t, k, w, left[0])
				left = left[1:]
				continue
			}
			putterIs(t, p, false, false)
			probe.Step(t, p, w, right[0])
			right = right[1:]
		}
		takerIs(t, k, true, 0, 3, true)
		putterIs(t, p, true, true)
	}
}

// R5: a machine goes from one row of words to another with what it has seen.
func TestAnotherRowOfWords(t *testing.T) {
	a := probe.Entry(0, 3, 1)
	one, other := laid(t, little, 0, 0, a, 0), laid(t, little, 0, a, 5, 0)
	k := NewTaker(little, 0, 1)
	probe.Step(t, k, one, probe.Loads(0, 36, 0))
	probe.Step(t, k, one, probe.Loads(0, 37, a))
	probe.Step(t, k, other, probe.Stores(0, 37, 5, 0))
	takerIs(t, k, true, 0, 3, true)
}
