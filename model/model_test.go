package model

import (
	"math"
	"math/rand"
	"slices"
	"testing"

	"allotment/api"
)

// most is how many words the greatest heap has.
const most = api.MaxPages * api.PageWords

// row is a few blocks as they are written in a table.
type row []Block

// with makes a model of so many words with those blocks, taken in that order.
func with(t *testing.T, words int, blocks ...Block) *Model {
	t.Helper()
	m := New(words)
	for _, b := range blocks {
		if !m.Take(b.At, b.N) {
			t.Fatalf("New(%d): Take(%d, %d) is refused", words, b.At, b.N)
		}
	}
	return m
}

// holds asks a model for everything that it can tell, against those blocks by rising places in so many words, reckoned word by word.
func holds(t *testing.T, m *Model, words int, want row) {
	t.Helper()
	if got := m.Blocks(); !slices.Equal(got, want) {
		t.Fatalf("Blocks is %v, want %v", got, want)
	}
	inside := make([]Block, words)
	used := 0
	for _, b := range want {
		used += b.N
		for a := b.At; a < b.At+b.N; a++ {
			inside[a] = b
		}
	}
	if got := m.Used(); got != used {
		t.Errorf("Used is %d, want %d, of %v", got, used, want)
	}
	for a := -2; a <= words+2; a++ {
		b := Block{}
		if a >= 0 && a < words {
			b = inside[a]
		}
		wordIs(t, m, a, b)
	}
	free := longest(inside)
	for n := -2; n <= words+2; n++ {
		if got := m.Room(n); got != (n >= 1 && n <= free) {
			t.Errorf("Room(%d) is %v, where the longest row of words in no block has %d: %v", n, got, free, want)
		}
	}
}

// wordIs asks At and Inside of a word that is in block b; in none, if b is zero.
func wordIs(t *testing.T, m *Model, at int, b Block) {
	t.Helper()
	if got, ok := m.Inside(at); got != b || ok != (b.N > 0) {
		t.Errorf("Inside(%d) is %v, %v, want %v", at, got, ok, b)
	}
	if b.At != at {
		b = Block{}
	}
	if got, ok := m.At(at); got != b || ok != (b.N > 0) {
		t.Errorf("At(%d) is %v, %v, want %v", at, got, ok, b)
	}
}

// longest is the longest row of words in no block.
func longest(inside []Block) int {
	best, free := 0, 0
	for _, b := range inside {
		free++
		if b.N > 0 {
			free = 0
		}
		best = max(best, free)
	}
	return best
}

// far is numbers far outside each heap.
func far() []int {
	return []int{most, most + 1, 1 << 31, 1 << 32, 1<<32 + 1, math.MaxInt, math.MaxInt - 1, math.MinInt, math.MinInt + 1, -most, -1 << 32}
}

// P6.1: the chapter's example.
func TestExample(t *testing.T) {
	m := New(10)
	if !m.Take(2, 4) || m.Take(5, 1) || !m.Room(4) || m.Room(5) || !m.Give(2) {
		t.Error("the example is answered otherwise")
	}
	holds(t, m, 10, nil)
}

// P6.1: New makes a heap of so many words, without blocks.
func TestNew(t *testing.T) {
	for _, words := range []int{0, 1, 2, 10, 63, 64, 65, most - 1, most} {
		m := New(words)
		holds(t, m, words, nil)
		if m.Take(0, words+1) {
			t.Errorf("New(%d): a block of one word more is taken", words)
		}
		if got := m.Take(0, words); got != (words > 0) {
			t.Errorf("New(%d): Take of all words is %v", words, got)
		}
	}
}

// P6.1: New of a number below 0 or above MaxPages PageWords is a heap of 0 words.
func TestNewRefused(t *testing.T) {
	for _, words := range append([]int{-1, -2, -64, most + 64}, far()[1:]...) {
		m := New(words)
		if m == nil {
			t.Fatalf("New(%d) is nil", words)
		}
		if m.Take(0, 1) || m.Room(1) {
			t.Errorf("New(%d) has a word", words)
		}
		holds(t, m, 0, nil)
	}
}

// P6.1: Take is false where the row is none, does not lie within the heap, or meets another block; R3: then nothing is done. Each row of a small heap is asked.
func TestTakeEachRow(t *testing.T) {
	const words = 12
	blocks := row{{2, 3}, {5, 1}, {8, 2}}
	for at := -3; at <= words+3; at++ {
		for n := -3; n <= words+3; n++ {
			m := with(t, words, blocks...)
			fits := n >= 1 && at >= 0 && at+n <= words
			for _, b := range blocks {
				fits = fits && (at+n <= b.At || b.At+b.N <= at)
			}
			if got := m.Take(at, n); got != fits {
				t.Errorf("Take(%d, %d) beside %v is %v", at, n, blocks, got)
			}
			want := slices.Clone(blocks)
			if fits {
				want = append(want, Block{at, n})
				slices.SortFunc(want, func(a, b Block) int { return a.At - b.At })
			}
			holds(t, m, words, want)
		}
	}
}

// P6.1: a row whose place or length is so great that its end goes beyond an int is refused too.
func TestTakeFar(t *testing.T) {
	m := with(t, 10, Block{2, 4})
	numbers := append(far(), 0, 1, 2, 5, 6, 9, 10, -1, -10, math.MaxInt-9, math.MaxInt-5)
	for _, at := range numbers {
		for _, n := range numbers {
			if at >= 0 && at <= 10 && n >= 1 && n <= 10 {
				continue
			}
			if m.Take(at, n) {
				t.Errorf("Take(%d, %d) is true", at, n)
			}
		}
	}
	holds(t, m, 10, row{{2, 4}})
}

// P6.1: a row that meets a block at its first or at its last word is refused; one that touches it is taken.
func TestTakeBeside(t *testing.T) {
	m := with(t, 20, Block{8, 4})
	for _, b := range []Block{{8, 4}, {8, 1}, {11, 1}, {5, 4}, {11, 4}, {7, 6}, {9, 2}, {0, 20}, {0, 9}, {11, 9}} {
		if m.Take(b.At, b.N) {
			t.Errorf("Take(%d, %d) is true, where {8 4} is", b.At, b.N)
		}
		holds(t, m, 20, row{{8, 4}})
	}
	if !m.Take(12, 8) || !m.Take(0, 8) {
		t.Error("a row that touches a block is refused")
	}
	holds(t, m, 20, row{{0, 8}, {8, 4}, {12, 8}})
}

// P6.1: Give makes the block that begins there none, and no other; false where none begins, though the word be in one.
func TestGive(t *testing.T) {
	const words = 12
	blocks := row{{0, 1}, {2, 3}, {5, 1}, {9, 3}}
	for at := -3; at <= words+3; at++ {
		m := with(t, words, blocks...)
		i := slices.IndexFunc(blocks, func(b Block) bool { return b.At == at })
		if got := m.Give(at); got != (i >= 0) {
			t.Errorf("Give(%d) of %v is %v", at, blocks, got)
		}
		want := slices.Clone(blocks)
		if i >= 0 {
			want = slices.Delete(want, i, i+1)
		}
		holds(t, m, words, want)
		if m.Give(at) {
			t.Errorf("Give(%d) is true a second time", at)
		}
	}
}

// P6.1: Give, At, Inside and Room of numbers far outside find nothing, and change nothing.
func TestFar(t *testing.T) {
	m := with(t, 10, Block{0, 3}, Block{7, 3})
	for _, a := range far() {
		if m.Give(a) {
			t.Errorf("Give(%d) is true", a)
		}
		wordIs(t, m, a, Block{})
		if m.Room(a) {
			t.Errorf("Room(%d) is true", a)
		}
	}
	holds(t, m, 10, row{{0, 3}, {7, 3}})
}

// P6.1: a word that was given back may be in another block, of whatever length.
func TestTakeAgain(t *testing.T) {
	m := with(t, 10, Block{0, 4}, Block{4, 2}, Block{6, 4})
	if !m.Give(4) || !m.Give(0) || m.Take(0, 7) || !m.Take(1, 5) || m.Take(0, 2) || !m.Take(0, 1) {
		t.Error("what was given back is answered otherwise")
	}
	holds(t, m, 10, row{{0, 1}, {1, 5}, {6, 4}})
}

// P6.1: blocks of 1 word and of all words, at the heap's first and last word, of the greatest heap too.
func TestEdges(t *testing.T) {
	for _, words := range []int{1, 2, 64, most} {
		m := with(t, words, Block{0, words})
		holds(t, m, words, row{{0, words}})
		if m.Take(0, 1) || m.Take(words-1, 1) || !m.Give(0) {
			t.Errorf("a block of all %d words is answered otherwise", words)
		}
		if !m.Take(words-1, 1) || m.Take(words, 1) || m.Take(words-1, 2) {
			t.Errorf("the last of %d words is answered otherwise", words)
		}
		holds(t, m, words, row{{words - 1, 1}})
	}
}

// P6.1: each word of the greatest heap a block; Blocks are by rising places, in whatever order they were taken.
func TestEachWordABlock(t *testing.T) {
	m := New(most)
	r := rand.New(rand.NewSource(6))
	for _, a := range r.Perm(most) {
		if !m.Take(a, 1) {
			t.Fatalf("Take(%d, 1) is refused", a)
		}
	}
	want := make(row, most)
	for a := range want {
		want[a] = Block{a, 1}
	}
	holds(t, m, most, want)
	for _, a := range r.Perm(most) {
		if !m.Give(a) {
			t.Fatalf("Give(%d) is refused", a)
		}
	}
	holds(t, m, most, nil)
}

// P6.1: Room is so much as is left, ahead of the first block, between two, and behind the last one; not one word more.
func TestRoom(t *testing.T) {
	for _, c := range []struct {
		blocks row
		free   int
	}{
		{row{}, 20},
		{row{{0, 20}}, 0},
		{row{{0, 19}}, 1},
		{row{{1, 19}}, 1},
		{row{{9, 1}}, 10},
		{row{{12, 8}}, 12},
		{row{{0, 5}, {5, 5}}, 10},
		{row{{3, 2}, {12, 5}}, 7},
		{row{{0, 1}, {19, 1}}, 18},
		{row{{4, 1}, {9, 1}, {14, 1}}, 5},
	} {
		m := with(t, 20, c.blocks...)
		for n := -1; n <= 21; n++ {
			if got := m.Room(n); got != (n >= 1 && n <= c.free) {
				t.Errorf("Room(%d) beside %v is %v", n, c.blocks, got)
			}
		}
	}
}

// P6.1: whatever is taken and given in whatever order, against a heap that is reckoned word by word.
func TestWalk(t *testing.T) {
	for seed := range int64(30) {
		r := rand.New(rand.NewSource(seed))
		words := 1 + r.Intn(40)
		m := New(words)
		var want row
		for range 150 {
			at, n := r.Intn(words+4)-2, r.Intn(7)-1
			if r.Intn(2) == 0 {
				want = taken(t, m, words, want, Block{at, n})
			} else {
				want = given(t, m, want, at)
			}
			holds(t, m, words, want)
		}
	}
}

// taken plays a Take, and answers the blocks that are to be behind it.
func taken(t *testing.T, m *Model, words int, blocks row, b Block) row {
	t.Helper()
	fits := b.N >= 1 && b.At >= 0 && b.At+b.N <= words
	next := row{}
	for _, o := range blocks {
		for a := o.At; a < o.At+o.N; a++ {
			fits = fits && (a < b.At || a >= b.At+b.N)
		}
		if o.At < b.At {
			next = append(next, o)
		}
	}
	if got := m.Take(b.At, b.N); got != fits {
		t.Errorf("Take(%d, %d) beside %v is %v", b.At, b.N, blocks, got)
	}
	if !fits {
		return blocks
	}
	return append(append(next, b), blocks[len(next):]...)
}

// given plays a Give, and answers the blocks that are to be behind it.
func given(t *testing.T, m *Model, blocks row, at int) row {
	t.Helper()
	next := row{}
	for _, o := range blocks {
		if o.At != at {
			next = append(next, o)
		}
	}
	if got := m.Give(at); got != (len(next) < len(blocks)) {
		t.Errorf("Give(%d) of %v is %v", at, blocks, got)
	}
	return next
}

// R4: Blocks is new memory, spare room too: to change it changes neither the model nor what Blocks answered before or answers behind it.
func TestBlocksIsNew(t *testing.T) {
	blocks := row{{1, 2}, {4, 1}, {7, 2}}
	m := with(t, 12, blocks...)
	first, second := m.Blocks(), m.Blocks()
	first = first[:cap(first)]
	for i := range first {
		first[i] = Block{At: 99, N: 99}
	}
	if !slices.Equal(second, blocks) {
		t.Errorf("another answer of Blocks became %v", second)
	}
	holds(t, m, 12, blocks)
	if !m.Take(0, 1) || !m.Give(7) || !m.Take(9, 3) {
		t.Error("the model is answered otherwise behind a change of what Blocks answered")
	}
	holds(t, m, 12, row{{0, 1}, {1, 2}, {4, 1}, {9, 3}})
	if !slices.Equal(second, blocks) {
		t.Errorf("an earlier answer of Blocks became %v", second)
	}
	none := New(5).Blocks()
	if len(none) != 0 {
		t.Errorf("Blocks of a heap without blocks is %v", none)
	}
}

// R5: two models know nothing of each other.
func TestTwoModels(t *testing.T) {
	one, two := New(8), New(8)
	one.Take(0, 3)
	two.Take(2, 4)
	one.Take(5, 1)
	holds(t, one, 8, row{{0, 3}, {5, 1}})
	holds(t, two, 8, row{{2, 4}})
	two.Give(2)
	holds(t, one, 8, row{{0, 3}, {5, 1}})
	holds(t, two, 8, nil)
}

// R7: a nil model answers zero values.
func TestNil(t *testing.T) {
	var m *Model
	for _, a := range append(far(), -1, 0, 1, 2) {
		if m.Give(a) || m.Room(a) || m.Take(a, 1) || m.Take(0, a) {
			t.Errorf("a nil model does something with %d", a)
		}
		wordIs(t, m, a, Block{})
	}
	if len(m.Blocks()) != 0 || m.Used() != 0 {
		t.Error("a nil model has blocks")
	}
}
