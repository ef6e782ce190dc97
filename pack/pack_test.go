package pack

import (
	"math"
	"testing"

	"allotment/api"
)

var (
	least    = api.Shape{Pages: 1, Clients: 1, Mag: 0}
	middle   = api.Shape{Pages: 10, Clients: 3, Mag: 2}
	greatest = api.Shape{Pages: api.MaxPages, Clients: api.MaxClients, Mag: api.MaxMag}
)

// shapes is some that may be, those at the bounds among them.
func shapes() []api.Shape {
	return []api.Shape{least, middle, greatest, {Pages: api.MaxPages, Clients: 1, Mag: 0}, {Pages: 1, Clients: api.MaxClients, Mag: api.MaxMag}}
}

// wrongShapes is some that may not be, each for one of its numbers.
func wrongShapes() []api.Shape {
	return []api.Shape{
		{},
		{Pages: 0, Clients: 3, Mag: 2}, {Pages: -1, Clients: 3, Mag: 2}, {Pages: api.MaxPages + 1, Clients: 3, Mag: 2}, {Pages: math.MaxInt, Clients: 3, Mag: 2}, {Pages: math.MinInt, Clients: 3, Mag: 2},
		{Pages: 10, Clients: 0, Mag: 2}, {Pages: 10, Clients: -1, Mag: 2}, {Pages: 10, Clients: api.MaxClients + 1, Mag: 2}, {Pages: 10, Clients: math.MaxInt, Mag: 2}, {Pages: 10, Clients: math.MinInt, Mag: 2},
		{Pages: 10, Clients: 3, Mag: -1}, {Pages: 10, Clients: 3, Mag: api.MaxMag + 1}, {Pages: 10, Clients: 3, Mag: math.MaxInt}, {Pages: 10, Clients: 3, Mag: math.MinInt},
	}
}

// noKinds is kinds that are none, where those from 0 to below bound are some; some of them are one in their lowest 4 bits.
func noKinds(bound int) []int {
	l := []int{-1, -2, -15, -16, 16, 17, 18, 19, 20, 32, 256, 1 << 32, 1<<32 + 1, math.MaxInt, math.MinInt, math.MinInt + 1}
	for kind := bound; kind < 16; kind++ {
		l = append(l, kind)
	}
	return l
}

// noFields is numbers for which a field has no room; some of them are 0 in their lowest 8 bits.
func noFields() []int {
	return []int{-1, -2, -255, -256, 256, 257, 511, 512, 4096, 1 << 32, math.MaxInt, math.MinInt}
}

// word lays a word's parts by multiplying, as the chapter's example does.
func word(kind, a, b, c int) uint64 {
	return uint64(kind + 16*a + 4096*b + 1048576*c)
}

// allWords is how many words have no bit beyond the kind, A and B.
const allWords = 1 << 20

// beyond calls f with w and one bit more, for each bit from the first one on.
func beyond(first int, w uint64, f func(w uint64)) {
	for bit := first; bit < 64; bit++ {
		f(w | 1<<bit)
	}
}

// The kinds' numbers: they are to be told apart in the words themselves.
func TestKinds(t *testing.T) {
	for i, l := range [][]int{{Unused, Live, Dead, By, Done}, {Empty, Held, Super, Large, Body}, {None, Open, Way, Taken}} {
		for want, kind := range l {
			if kind != want {
				t.Errorf("row %d: a kind is %d, want %d", i, kind, want)
			}
		}
	}
}

// statuses is each status by its word.
func statuses() map[uint64][2]int {
	m := map[uint64][2]int{0: {Unused, 0}, 1: {Live, 0}, 2: {Dead, 0}, 4: {Done, 0}}
	for by := range 256 {
		m[word(3, by, 0, 0)] = [2]int{By, by}
	}
	return m
}

// P4.1: each status has its word, and is read from it.
func TestStatus(t *testing.T) {
	for w, x := range statuses() {
		if got := Status(x[0], x[1]); got != w {
			t.Errorf("Status(%d, %d) is %d, want %d", x[0], x[1], got, w)
		}
	}
	for _, c := range []struct {
		kind, by int
		want     uint64
	}{{Unused, 0, 0}, {Live, 0, 1}, {Dead, 0, 2}, {By, 0, 3}, {By, 1, 19}, {By, 11, 179}, {By, 255, 4083}, {Done, 0, 4}} {
		if got := Status(c.kind, c.by); got != c.want {
			t.Errorf("Status(%d, %d) is %d, want %d", c.kind, c.by, got, c.want)
		}
		if kind, by := ReadStatus(c.want); kind != c.kind || by != c.by {
			t.Errorf("ReadStatus(%d) is %d, %d, want %d, %d", c.want, kind, by, c.kind, c.by)
		}
	}
}

// P4.1: no word for a kind that is none, for a client that has no room, or that the kind does not have.
func TestStatusWrong(t *testing.T) {
	none := func(kind, by int) {
		t.Helper()
		if got := Status(kind, by); got != 0 {
			t.Errorf("Status(%d, %d) is %d, want 0", kind, by, got)
		}
	}
	for _, kind := range noKinds(5) {
		none(kind, 0)
		none(kind, 1)
		none(kind, 255)
	}
	for kind := range 5 {
		for _, by := range noFields() {
			none(kind, by)
		}
		for by := 1; by < 256 && kind != By; by++ {
			none(kind, by)
		}
	}
}

// P4.1: of all words none but a status's is read as one.
func TestReadStatus(t *testing.T) {
	m := statuses()
	reads := func(w uint64) {
		t.Helper()
		want := m[w]
		if kind, by := ReadStatus(w); kind != want[0] || by != want[1] {
			t.Fatalf("ReadStatus(%d) is %d, %d, want %d", w, kind, by, want)
		}
	}
	for w := range uint64(allWords) {
		reads(w)
	}
	for w := range m {
		beyond(12, w, reads)
	}
	reads(math.MaxUint64)
}

// pages is each page by its word, without regard to a shape.
func pages() map[uint64]Page {
	m := map[uint64]Page{0: {}}
	for a := range 256 {
		for _, kind := range []int{Held, Large, Body} {
			m[word(kind, a, 0, 0)] = Page{kind, a, 0}
		}
		for b := range 256 {
			m[word(Super, a, b, 0)] = Page{Super, a, b}
		}
	}
	return m
}

// P4.2: each page has its word.
func TestPutPage(t *testing.T) {
	for w, p := range pages() {
		if got := PutPage(p); got != w {
			t.Fatalf("PutPage(%v) is %d, want %d", p, got, w)
		}
	}
	for _, c := range []struct {
		p    Page
		want uint64
	}{
		{Page{Empty, 0, 0}, 0}, {Page{Held, 0, 0}, 1}, {Page{Held, 255, 0}, 4081},
		{Page{Super, 0, 0}, 2}, {Page{Super, 2, 1}, 4130}, {Page{Super, 255, 255}, 1048562}, {Page{Super, 0, 255}, 1044482},
		{Page{Large, 0, 0}, 3}, {Page{Large, 8, 0}, 131}, {Page{Large, 255, 0}, 4083},
		{Page{Body, 0, 0}, 4}, {Page{Body, 62, 0}, 996}, {Page{Body, 255, 0}, 4084},
	} {
		if got := PutPage(c.p); got != c.want {
			t.Errorf("PutPage(%v) is %d, want %d", c.p, got, c.want)
		}
	}
}

// P4.2: no word for a kind that is none, for fields that have no room, or that the kind does not have.
func TestPutPageWrong(t *testing.T) {
	none := func(p Page) {
		t.Helper()
		if got := PutPage(p); got != 0 {
			t.Errorf("PutPage(%v) is %d, want 0", p, got)
		}
	}
	for _, kind := range noKinds(5) {
		none(Page{kind, 0, 0})
		none(Page{kind, 1, 0})
		none(Page{kind, 1, 1})
		none(Page{kind, 255, 255})
	}
	for kind := range 5 {
		for _, x := range noFields() {
			none(Page{kind, x, 0})
			none(Page{kind, 0, x})
			none(Page{kind, 1, x})
			none(Page{kind, x, x})
		}
		for x := 1; x < 256; x++ {
			if kind == Empty {
				none(Page{kind, x, 0})
			}
			if kind != Super {
				none(Page{kind, 0, x})
				none(Page{kind, 1, x})
			}
		}
	}
}

// standing is each page that may stand at that place of the shape, by its word.
func standing(s api.Shape, at int) map[uint64]Page {
	m := map[uint64]Page{0: {}}
	for c := range s.Clients {
		m[word(Held, c, 0, 0)] = Page{Held, c, 0}
		for class := range api.Classes {
			m[word(Super, class, c, 0)] = Page{Super, class, c}
		}
	}
	for n := 1; n <= api.MaxRun; n++ {
		if at+n <= s.Pages {
			m[word(Large, n, 0, 0)] = Page{Large, n, 0}
		}
		if n < api.MaxRun && at-n >= 0 {
			m[word(Body, at-n, 0, 0)] = Page{Body, at - n, 0}
		}
	}
	return m
}

// pageIs asks what the word of a page is read as.
func pageIs(t *testing.T, s api.Shape, at int, w uint64, want Page, may bool) {
	t.Helper()
	if got, ok := ReadPage(s, at, w); got != want || ok != may {
		t.Fatalf("ReadPage(%v, %d, %d) is %v, %v, want %v, %v", s, at, w, got, ok, want, may)
	}
}

// noPage asks that the word is no page's.
func noPage(t *testing.T, s api.Shape, at int, w uint64) {
	t.Helper()
	pageIs(t, s, at, w, Page{}, false)
}

// P4.2: of all words without a bit beyond B just those are read that may stand there.
func TestReadPage(t *testing.T) {
	for _, at := range []int{0, 1, 5, 9} {
		m := standing(middle, at)
		for w := range uint64(allWords) {
			want, may := m[w]
			pageIs(t, middle, at, w, want, may)
		}
	}
}

// P4.2: so it is at each page of all shapes, with each kind and each A; of the Bs with some.
func TestReadPageEverywhere(t *testing.T) {
	for _, s := range shapes() {
		for at := range s.Pages {
			m := standing(s, at)
			for _, b := range []int{0, 1, s.Clients - 1, s.Clients, 255} {
				for low := range 4096 {
					w := word(low, 0, b, 0)
					want, may := m[w]
					pageIs(t, s, at, w, want, may)
				}
			}
		}
	}
}

// P4.2: a bit beyond the fields, C's too, makes a word none of a page.
func TestReadPageBits(t *testing.T) {
	for _, at := range []int{0, 5, 9} {
		for w := range standing(middle, at) {
			beyond(20, w, func(w uint64) { noPage(t, middle, at, w) })
		}
	}
	noPage(t, middle, 5, math.MaxUint64)
}

// P4.2: the edges by number: the last client and class, the greatest blocks, the heads that are nearest and farthest.
func TestReadPageEdges(t *testing.T) {
	for _, c := range []struct {
		at   int
		p    Page
		want bool
	}{
		{0, Page{Empty, 0, 0}, true}, {9, Page{Empty, 0, 0}, true},
		{0, Page{Held, 0, 0}, true}, {0, Page{Held, 2, 0}, true}, {9, Page{Held, 2, 0}, true}, {0, Page{Held, 3, 0}, false}, {0, Page{Held, 255, 0}, false},
		{0, Page{Super, 3, 2}, true}, {9, Page{Super, 0, 0}, true}, {0, Page{Super, 4, 2}, false}, {0, Page{Super, 255, 0}, false}, {0, Page{Super, 3, 3}, false}, {0, Page{Super, 0, 255}, false},
		{0, Page{Large, 0, 0}, false}, {0, Page{Large, 1, 0}, true}, {0, Page{Large, 8, 0}, true}, {0, Page{Large, 9, 0}, false}, {0, Page{Large, 255, 0}, false},
		{2, Page{Large, 8, 0}, true}, {3, Page{Large, 8, 0}, false}, {3, Page{Large, 7, 0}, true}, {9, Page{Large, 1, 0}, true}, {9, Page{Large, 2, 0}, false}, {9, Page{Large, 0, 0}, false},
		{0, Page{Body, 0, 0}, false}, {1, Page{Body, 0, 0}, true}, {7, Page{Body, 0, 0}, true}, {8, Page{Body, 0, 0}, false}, {8, Page{Body, 1, 0}, true}, {9, Page{Body, 8, 0}, true},
		{5, Page{Body, 5, 0}, false}, {5, Page{Body, 6, 0}, false}, {5, Page{Body, 4, 0}, true}, {9, Page{Body, 1, 0}, false}, {9, Page{Body, 255, 0}, false},
	} {
		want := Page{}
		if c.want {
			want = c.p
		}
		pageIs(t, middle, c.at, PutPage(c.p), want, c.want)
	}
	noPage(t, middle, 5, word(Empty, 1, 0, 0))
	noPage(t, middle, 5, word(Empty, 0, 1, 0))
	noPage(t, middle, 5, word(Held, 1, 1, 0))
	noPage(t, middle, 5, word(Large, 1, 1, 0))
	noPage(t, middle, 5, word(Body, 4, 1, 0))
	noPage(t, middle, 5, word(Super, 1, 1, 1))
	for kind := 5; kind < 16; kind++ {
		noPage(t, middle, 5, word(kind, 0, 0, 0))
		noPage(t, middle, 5, word(kind, 1, 0, 0))
	}
}

// P4.2: nothing stands at a page that the shape does not have, nor in a shape that may not be.
func TestReadPageNowhere(t *testing.T) {
	l := []uint64{0, word(Held, 0, 0, 0), word(Super, 0, 0, 0), word(Large, 1, 0, 0), word(Body, 0, 0, 0), word(Body, 9, 0, 0), word(Body, 63, 0, 0)}
	for _, w := range l {
		for _, s := range shapes() {
			for _, at := range []int{-1, -2, math.MinInt, math.MinInt + 1, s.Pages, s.Pages + 1, math.MaxInt} {
				noPage(t, s, at, w)
			}
		}
		for _, s := range wrongShapes() {
			for _, at := range []int{-1, 0, 1, 5, 9, math.MinInt, math.MaxInt} {
				noPage(t, s, at, w)
			}
		}
	}
}

// slots is each slot by its word.
func slots() map[uint64]Slot {
	m := map[uint64]Slot{0: {}}
	for a := range 256 {
		for _, kind := range []int{Open, Way, Taken} {
			m[word(kind, a, 0, 0)] = Slot{kind, a}
		}
	}
	return m
}

// P4.3: each slot has its word.
func TestPutSlot(t *testing.T) {
	for w, x := range slots() {
		if got := PutSlot(x); got != w {
			t.Errorf("PutSlot(%v) is %d, want %d", x, got, w)
		}
	}
	for _, c := range []struct {
		x    Slot
		want uint64
	}{{Slot{None, 0}, 0}, {Slot{Open, 0}, 1}, {Slot{Open, 3}, 49}, {Slot{Open, 255}, 4081}, {Slot{Way, 0}, 2}, {Slot{Way, 11}, 178}, {Slot{Way, 255}, 4082}, {Slot{Taken, 0}, 3}, {Slot{Taken, 3}, 51}, {Slot{Taken, 255}, 4083}} {
		if got := PutSlot(c.x); got != c.want {
			t.Errorf("PutSlot(%v) is %d, want %d", c.x, got, c.want)
		}
		if got := ReadSlot(c.want); got != c.x {
			t.Errorf("ReadSlot(%d) is %v, want %v", c.want, got, c.x)
		}
	}
}

// P4.3: no word for a kind that is none, for a field that has no room, or that the kind does not have.
func TestPutSlotWrong(t *testing.T) {
	none := func(x Slot) {
		t.Helper()
		if got := PutSlot(x); got != 0 {
			t.Errorf("PutSlot(%v) is %d, want 0", x, got)
		}
	}
	for _, kind := range noKinds(4) {
		none(Slot{kind, 0})
		none(Slot{kind, 1})
		none(Slot{kind, 255})
	}
	for kind := range 4 {
		for _, a := range noFields() {
			none(Slot{kind, a})
		}
	}
	for a := 1; a < 256; a++ {
		none(Slot{None, a})
	}
}

// P4.3: of all words none but a slot's is read as one.
func TestReadSlot(t *testing.T) {
	m := slots()
	reads := func(w uint64) {
		t.Helper()
		if got := ReadSlot(w); got != m[w] {
			t.Fatalf("ReadSlot(%d) is %v, want %v", w, got, m[w])
		}
	}
	for w := range uint64(allWords) {
		reads(w)
	}
	for w := range m {
		beyond(12, w, reads)
	}
	reads(math.MaxUint64)
}

// P4.4: each entry has its word.
func TestPutEntry(t *testing.T) {
	for _, page := range []int{0, 1, 63, 64, 254, 255} {
		for _, slot := range []int{0, 1, 15, 16, 254, 255} {
			for _, class := range []int{0, 1, 3, 4, 254, 255} {
				if got, want := PutEntry(Entry{page, slot, class}), word(1, page, slot, class); got != want {
					t.Errorf("PutEntry(%d %d %d) is %d, want %d", page, slot, class, got, want)
				}
			}
		}
	}
	for _, c := range []struct {
		e    Entry
		want uint64
	}{{Entry{0, 0, 0}, 1}, {Entry{1, 2, 0}, 8209}, {Entry{63, 15, 0}, 62449}, {Entry{0, 0, 1}, 1048577}, {Entry{255, 255, 255}, 268435441}} {
		if got := PutEntry(c.e); got != c.want {
			t.Errorf("PutEntry(%v) is %d, want %d", c.e, got, c.want)
		}
	}
}

// P4.4: no word for a field that has no room.
func TestPutEntryWrong(t *testing.T) {
	for _, x := range noFields() {
		for _, y := range []int{0, 1, 255, x} {
			for _, e := range []Entry{{x, y, y}, {y, x, y}, {y, y, x}} {
				if got := PutEntry(e); got != 0 {
					t.Errorf("PutEntry(%v) is %d, want 0", e, got)
				}
			}
		}
	}
}

// entryIs asks what the word of an entry is read as.
func entryIs(t *testing.T, s api.Shape, w uint64, want Entry, may bool) {
	t.Helper()
	if got, ok := ReadEntry(s, w); got != want || ok != may {
		t.Fatalf("ReadEntry(%v, %d) is %v, %v, want %v, %v", s, w, got, ok, want, may)
	}
}

// noEntry asks that the word is no entry of the shape.
func noEntry(t *testing.T, s api.Shape, w uint64) {
	t.Helper()
	entryIs(t, s, w, Entry{}, false)
}

// entries is each entry of the shape by its word.
func entries(s api.Shape) map[uint64]Entry {
	m := map[uint64]Entry{}
	for class, slots := range []int{16, 8, 4, 2} {
		for slot := range slots {
			for page := range s.Pages {
				m[word(1, page, slot, class)] = Entry{page, slot, class}
			}
		}
	}
	return m
}

// P4.4: of all words with a page, a slot and one of some classes just those are read that are entries of the shape.
func TestReadEntry(t *testing.T) {
	for _, class := range []int{0, 1, 2, 3, 4, 255} {
		m := entries(middle)
		for low := range allWords {
			w := word(low, 0, 0, class)
			want, may := m[w]
			entryIs(t, middle, w, want, may)
		}
	}
}

// P4.4: so it is in all shapes, with each page and each class; of the slots with some.
func TestReadEntryOfShapes(t *testing.T) {
	for _, s := range shapes() {
		m := entries(s)
		for page := range 256 {
			for class := range 256 {
				for _, slot := range []int{0, 1, 2, 3, 4, 7, 8, 15, 16, 255} {
					w := word(1, page, slot, class)
					want, may := m[w]
					entryIs(t, s, w, want, may)
				}
			}
		}
	}
}

// P4.4: the edges by number: the last page, and the last slot of each class.
func TestReadEntryEdges(t *testing.T) {
	for _, c := range []struct {
		e    Entry
		want bool
	}{
		{Entry{0, 0, 0}, true}, {Entry{9, 0, 0}, true}, {Entry{10, 0, 0}, false}, {Entry{255, 0, 0}, false},
		{Entry{9, 15, 0}, true}, {Entry{9, 16, 0}, false}, {Entry{0, 7, 1}, true}, {Entry{0, 8, 1}, false},
		{Entry{0, 3, 2}, true}, {Entry{0, 4, 2}, false}, {Entry{9, 1, 3}, true}, {Entry{0, 2, 3}, false}, {Entry{0, 255, 0}, false},
		{Entry{0, 0, 4}, false}, {Entry{0, 1, 4}, false}, {Entry{0, 0, 255}, false}, {Entry{255, 255, 255}, false},
	} {
		want := Entry{}
		if c.want {
			want = c.e
		}
		entryIs(t, middle, PutEntry(c.e), want, c.want)
	}
}

// P4.4: no entry: a word 0, another kind, a bit beyond the fields, a shape that may not be.
func TestReadEntryWrong(t *testing.T) {
	for kind := range 16 {
		if kind != 1 {
			noEntry(t, middle, word(kind, 0, 0, 0))
			noEntry(t, middle, word(kind, 1, 2, 0))
		}
	}
	noEntry(t, middle, math.MaxUint64)
	for w := range entries(middle) {
		beyond(28, w, func(w uint64) { noEntry(t, middle, w) })
	}
	for _, s := range wrongShapes() {
		for _, w := range []uint64{0, word(1, 0, 0, 0), word(1, 1, 2, 0), word(1, 9, 1, 3)} {
			noEntry(t, s, w)
		}
	}
}

// P4.2, P4.3, P4.4: the chapter's examples.
func TestExample(t *testing.T) {
	for i, c := range []struct{ got, want uint64 }{
		{PutPage(Page{Super, 2, 1}), 4130}, {PutSlot(Slot{Open, 3}), 49}, {PutEntry(Entry{1, 2, 0}), 8209},
	} {
		if c.got != c.want {
			t.Errorf("example %d is %d, want %d", i, c.got, c.want)
		}
	}
	pageIs(t, middle, 4, 4130, Page{Super, 2, 1}, true)
	entryIs(t, middle, 8209, Entry{1, 2, 0}, true)
	if got := ReadSlot(49); got != (Slot{Open, 3}) {
		t.Errorf("ReadSlot(49) is %v", got)
	}
}
