package plan

import (
	"math"
	"testing"

	"allotment/api"
)

var (
	least    = api.Shape{Pages: 1, Clients: 1, Mag: 0}
	example  = api.Shape{Pages: 2, Clients: 1, Mag: 3}
	middle   = api.Shape{Pages: 5, Clients: 3, Mag: 2}
	greatest = api.Shape{Pages: api.MaxPages, Clients: api.MaxClients, Mag: api.MaxMag}
)

// shapes is some that may be, those at the bounds among them.
func shapes() []api.Shape {
	return []api.Shape{
		least, example, middle, greatest,
		{Pages: api.MaxPages, Clients: 1, Mag: 0},
		{Pages: 1, Clients: api.MaxClients, Mag: 0},
		{Pages: 1, Clients: 1, Mag: api.MaxMag},
	}
}

// wrongShapes is some that may not be, each for one of its numbers.
func wrongShapes() []api.Shape {
	return []api.Shape{
		{},
		{Pages: 0, Clients: 1, Mag: 1}, {Pages: -1, Clients: 1, Mag: 1},
		{Pages: api.MaxPages + 1, Clients: 1, Mag: 1}, {Pages: math.MaxInt, Clients: 1, Mag: 1}, {Pages: math.MinInt, Clients: 1, Mag: 1},
		{Pages: 1, Clients: 0, Mag: 1}, {Pages: 1, Clients: -1, Mag: 1},
		{Pages: 1, Clients: api.MaxClients + 1, Mag: 1}, {Pages: 1, Clients: math.MaxInt, Mag: 1}, {Pages: 1, Clients: math.MinInt, Mag: 1},
		{Pages: 1, Clients: 1, Mag: -1}, {Pages: 1, Clients: 1, Mag: api.MaxMag + 1},
		{Pages: 1, Clients: 1, Mag: math.MaxInt}, {Pages: 1, Clients: 1, Mag: math.MinInt},
	}
}

// beside is numbers that are not from 0 to below bound.
func beside(bound int) []int {
	return []int{-1, -2, math.MinInt, bound, bound + 1, math.MaxInt}
}

// P3.1: which shapes may be.
func TestMay(t *testing.T) {
	for _, s := range shapes() {
		if !May(s) {
			t.Errorf("May(%v) is false", s)
		}
	}
	for _, s := range wrongShapes() {
		if May(s) {
			t.Errorf("May(%v) is true", s)
		}
	}
}

// P3.1: the size of each class and how many of its slots a page has.
func TestSizeAndSlots(t *testing.T) {
	sizes := []int{4, 8, 16, 32}
	slots := []int{16, 8, 4, 2}
	for class := range api.Classes {
		if got := Size(class); got != sizes[class] {
			t.Errorf("Size(%d) is %d, want %d", class, got, sizes[class])
		}
		if got := Slots(class); got != slots[class] {
			t.Errorf("Slots(%d) is %d, want %d", class, got, slots[class])
		}
		if Size(class)*Slots(class) != api.PageWords {
			t.Errorf("the slots of class %d do not fill a page", class)
		}
	}
	for _, class := range append(beside(api.Classes), 64, 1000) {
		if Size(class) != 0 || Slots(class) != 0 {
			t.Errorf("of class %d: Size %d, Slots %d, want 0, 0", class, Size(class), Slots(class))
		}
	}
}

// told is a number, and whether there is one.
type told struct {
	n  int
	ok bool
}

// lengths is what Class, Run and Length say of n.
type lengths struct {
	n                  int
	class, run, length told
}

// P3.1: Class, Run and Length at each of their edges, and of lengths that no block has.
func TestLengths(t *testing.T) {
	no := told{}
	for _, c := range []lengths{
		{1, told{0, true}, no, told{4, true}}, {3, told{0, true}, no, told{4, true}}, {4, told{0, true}, no, told{4, true}},
		{5, told{1, true}, no, told{8, true}}, {8, told{1, true}, no, told{8, true}},
		{9, told{2, true}, no, told{16, true}}, {16, told{2, true}, no, told{16, true}},
		{17, told{3, true}, no, told{32, true}}, {32, told{3, true}, no, told{32, true}},
		{33, no, told{1, true}, told{64, true}}, {63, no, told{1, true}, told{64, true}}, {64, no, told{1, true}, told{64, true}},
		{65, no, told{2, true}, told{128, true}}, {128, no, told{2, true}, told{128, true}}, {129, no, told{3, true}, told{192, true}},
		{448, no, told{7, true}, told{448, true}}, {449, no, told{8, true}, told{512, true}},
		{511, no, told{8, true}, told{512, true}}, {512, no, told{8, true}, told{512, true}},
		{513, no, no, no}, {1000, no, no, no}, {math.MaxInt, no, no, no}, {math.MaxInt - 63, no, no, no},
		{0, no, no, no}, {-1, no, no, no}, {-33, no, no, no}, {math.MinInt, no, no, no},
	} {
		lengthsAre(t, c)
	}
}

func lengthsAre(t *testing.T, want lengths) {
	t.Helper()
	got := lengths{n: want.n}
	got.class.n, got.class.ok = Class(want.n)
	got.run.n, got.run.ok = Run(want.n)
	got.length.n, got.length.ok = Length(want.n)
	if got != want {
		t.Errorf("Class, Run, Length: %+v, want %+v", got, want)
	}
}

// P3.1: of each length that may be, the class is the least that has room, or the pages are as few as have room.
func TestLengthsOneByOne(t *testing.T) {
	for n := 1; n <= api.MaxRun*api.PageWords; n++ {
		want := lengths{n: n}
		if n <= 32 {
			class := 0
			for Size(class) < n {
				class++
			}
			want.class, want.length = told{class, true}, told{Size(class), true}
		} else {
			pages := 1
			for pages*api.PageWords < n {
				pages++
			}
			want.run, want.length = told{pages, true}, told{pages * api.PageWords, true}
		}
		lengthsAre(t, want)
	}
}

// P3.2: how many words there are in all.
func TestWords(t *testing.T) {
	for _, c := range []struct {
		s    api.Shape
		want int
	}{{least, 18}, {example, 38}, {middle, 3 + 5 + 80 + 6}, {greatest, 12 + 64 + 1024 + 96}} {
		if got := Words(c.s); got != c.want {
			t.Errorf("Words(%v) is %d, want %d", c.s, got, c.want)
		}
	}
	if Words(greatest) > api.MaxWords {
		t.Errorf("the greatest shape has %d words, more than may be", Words(greatest))
	}
	for _, s := range wrongShapes() {
		if got := Words(s); got != 0 {
			t.Errorf("Words(%v) is %d, want 0", s, got)
		}
	}
}

// P3.2: statuses, page words, slots, magazines stand in that order, each word once, none left over.
func TestOrder(t *testing.T) {
	for _, s := range shapes() {
		next := 0
		is := func(name string, got int) {
			t.Helper()
			if got != next {
				t.Errorf("%v: %s stands at %d, want %d", s, name, got, next)
			}
			next++
		}
		for c := range s.Clients {
			is("a status", Status(s, c))
		}
		for p := range s.Pages {
			is("a page", Page(s, p))
		}
		for p := range s.Pages {
			for i := range api.MaxSlots {
				is("a slot", Slot(s, p, i))
			}
		}
		for c := range s.Clients {
			for i := range s.Mag {
				is("an entry", Mag(s, c, i))
			}
		}
		if next != Words(s) {
			t.Errorf("%v: %d words have a place, of %d", s, next, Words(s))
		}
	}
}

// P3.2: places by number, of the first and the last.
func TestPlaces(t *testing.T) {
	for _, c := range []struct {
		name      string
		got, want int
	}{
		{"Status middle 0", Status(middle, 0), 0}, {"Status middle 2", Status(middle, 2), 2},
		{"Page middle 0", Page(middle, 0), 3}, {"Page middle 4", Page(middle, 4), 7},
		{"Slot middle 0 0", Slot(middle, 0, 0), 8}, {"Slot middle 0 15", Slot(middle, 0, 15), 23},
		{"Slot middle 1 0", Slot(middle, 1, 0), 24}, {"Slot middle 4 15", Slot(middle, 4, 15), 87},
		{"Mag middle 0 0", Mag(middle, 0, 0), 88}, {"Mag middle 0 1", Mag(middle, 0, 1), 89},
		{"Mag middle 1 0", Mag(middle, 1, 0), 90}, {"Mag middle 2 1", Mag(middle, 2, 1), 93},
		{"Status greatest 11", Status(greatest, 11), 11}, {"Page greatest 63", Page(greatest, 63), 75},
		{"Slot greatest 63 15", Slot(greatest, 63, 15), 1099}, {"Mag greatest 11 7", Mag(greatest, 11, 7), 1195},
	} {
		if c.got != c.want {
			t.Errorf("%s is %d, want %d", c.name, c.got, c.want)
		}
	}
}

// P3.2: a client, a page, a slot, an entry that there is not stands nowhere.
func TestNoPlace(t *testing.T) {
	nowhere := func(name string, s api.Shape, x, i, got int) {
		t.Helper()
		if got != -1 {
			t.Errorf("%s(%v, %d, %d) is %d, want -1", name, s, x, i, got)
		}
	}
	for _, s := range shapes() {
		for _, c := range beside(s.Clients) {
			nowhere("Status", s, c, 0, Status(s, c))
			nowhere("Mag", s, c, 0, Mag(s, c, 0))
		}
		for _, p := range beside(s.Pages) {
			nowhere("Page", s, p, 0, Page(s, p))
			nowhere("Slot", s, p, 0, Slot(s, p, 0))
		}
		for _, i := range beside(api.MaxSlots) {
			nowhere("Slot", s, 0, i, Slot(s, 0, i))
		}
		for _, i := range beside(s.Mag) {
			nowhere("Mag", s, 0, i, Mag(s, 0, i))
		}
	}
	for _, s := range wrongShapes() {
		nowhere("Status", s, 0, 0, Status(s, 0))
		nowhere("Page", s, 0, 0, Page(s, 0))
		nowhere("Slot", s, 0, 0, Slot(s, 0, 0))
		nowhere("Mag", s, 0, 0, Mag(s, 0, 0))
	}
}

// P3.3: each address of a heap has its page and its word.
func TestSplit(t *testing.T) {
	for _, s := range shapes() {
		a := 0
		for p := range s.Pages {
			for w := range api.PageWords {
				page, word, ok := Split(s, a)
				if page != p || word != w || !ok {
					t.Fatalf("Split(%v, %d) is %d, %d, %v, want %d, %d, true", s, a, page, word, ok, p, w)
				}
				a++
			}
		}
	}
}

// P3.3: no address beyond the heap, and none of a shape that may not be.
func TestSplitWrong(t *testing.T) {
	none := func(s api.Shape, a int) {
		t.Helper()
		if page, word, ok := Split(s, a); page != 0 || word != 0 || ok {
			t.Errorf("Split(%v, %d) is %d, %d, %v, want 0, 0, false", s, a, page, word, ok)
		}
	}
	for _, s := range shapes() {
		for _, a := range beside(s.Pages * api.PageWords) {
			none(s, a)
		}
	}
	for _, s := range wrongShapes() {
		none(s, 0)
		none(s, 70)
	}
}

// P3.3: the address of a slot, with numbers out of place too: none is refused.
func TestAddress(t *testing.T) {
	for _, c := range []struct{ p, i, class, want int }{
		{0, 0, 0, 0}, {0, 1, 0, 4}, {0, 15, 0, 60}, {1, 0, 0, 64}, {2, 3, 1, 152}, {0, 7, 1, 56}, {5, 3, 2, 368}, {0, 1, 3, 32},
		{63, 15, 0, 4092}, {63, 1, 3, 4064},
		{-1, 0, 0, -64}, {-1, 2, 1, -48}, {64, 0, 0, 4096}, {1, -1, 3, 32}, {1, 16, 0, 128}, {1, 5, 3, 224},
		{2, 3, -1, 128}, {2, 3, api.Classes, 128}, {2, 3, math.MaxInt, 128}, {2, 3, math.MinInt, 128},
	} {
		if got := Address(c.p, c.i, c.class); got != c.want {
			t.Errorf("Address(%d, %d, %d) is %d, want %d", c.p, c.i, c.class, got, c.want)
		}
	}
	for _, n := range []int{math.MinInt, math.MaxInt} {
		Address(n, n, 0)
		Address(0, n, 3)
	}
}

// P3.3: the address of each slot of a page, split, is that page and the slot's first word.
func TestAddressAndSplit(t *testing.T) {
	for class := range api.Classes {
		for p := range greatest.Pages {
			for i := range Slots(class) {
				page, word, ok := Split(greatest, Address(p, i, class))
				if page != p || word != i*Size(class) || !ok {
					t.Fatalf("slot %d of page %d, class %d: %d, %d, %v", i, p, class, page, word, ok)
				}
			}
		}
	}
}

// P3.1, P3.2: the chapter's example.
func TestExample(t *testing.T) {
	if class, ok := Class(5); class != 1 || !ok {
		t.Errorf("Class(5) is %d, %v", class, ok)
	}
	if pages, ok := Run(65); pages != 2 || !ok {
		t.Errorf("Run(65) is %d, %v", pages, ok)
	}
	if got := Words(example); got != 38 {
		t.Errorf("Words is %d", got)
	}
	if got := Slot(example, 1, 2); got != 21 {
		t.Errorf("Slot is %d", got)
	}
}
