package frame

import (
	"math"
	"slices"
	"testing"

	"allotment/api"
)

// full makes a stack of at most so many frames, with frames of the codes 100, 101, .., each with its depth in its first register.
func full(t *testing.T, most, depth int) *Stack {
	t.Helper()
	s := New(most)
	for i := range depth {
		if !s.Push(100+i, int64(i)) {
			t.Fatalf("New(%d): frame %d is refused", most, i)
		}
	}
	return s
}

// topIs asks for the depth and the last frame.
func topIs(t *testing.T, s *Stack, depth int, want Frame) {
	t.Helper()
	if got := s.Depth(); got != depth {
		t.Errorf("Depth is %d, want %d", got, depth)
	}
	if got, ok := s.Top(); got != want || !ok {
		t.Errorf("Top is %v, %v, want %v, true", got, ok, want)
	}
}

// popIs takes the last frame away and asks which it was.
func popIs(t *testing.T, s *Stack, want Frame) {
	t.Helper()
	if got, ok := s.Pop(); got != want || !ok {
		t.Errorf("Pop is %v, %v, want %v, true", got, ok, want)
	}
}

// bare asks that there is no frame, and that whatever asks for one is refused.
func bare(t *testing.T, s *Stack) {
	t.Helper()
	if got := s.Depth(); got != 0 {
		t.Errorf("Depth is %d, want 0", got)
	}
	if f, ok := s.Top(); f != (Frame{}) || ok {
		t.Errorf("Top is %v, %v, want a zero frame, false", f, ok)
	}
	if f, ok := s.Pop(); f != (Frame{}) || ok {
		t.Errorf("Pop is %v, %v, want a zero frame, false", f, ok)
	}
	for _, pc := range []int{0, 1, -1, math.MaxInt} {
		if s.Go(pc) {
			t.Errorf("Go(%d) is true where no frame is", pc)
		}
	}
	for _, r := range append(noRegisters(), registers()...) {
		if s.Set(r, 5) {
			t.Errorf("Set(%d) is true where no frame is", r)
		}
		if x, ok := s.Get(r); x != 0 || ok {
			t.Errorf("Get(%d) is %d, %v where no frame is", r, x, ok)
		}
	}
	if got := s.Depth(); got != 0 {
		t.Errorf("Depth is %d behind what was refused, want 0", got)
	}
}

// registers is each register's number.
func registers() []int { return []int{0, 1, 2, 3, 4, 5, 6, 7} }

// noRegisters is numbers of no register; some are one in their lowest bits.
func noRegisters() []int {
	return []int{-1, -2, -8, 8, 9, 16, 256, 1 << 32, 1<<32 + 1, math.MaxInt, math.MinInt, math.MinInt + 1}
}

// numbers is what a register may hold, the greatest and the least among them.
func numbers() []int64 {
	return []int64{0, 1, -1, 7, math.MaxInt32, math.MinInt32, math.MaxInt32 + 1, 1<<53 + 1, math.MaxInt64, math.MaxInt64 - 1, math.MinInt64, math.MinInt64 + 1}
}

// P5.1: New makes a stack of at most so many frames, from none to MaxFrames.
func TestNew(t *testing.T) {
	if api.MaxFrames != 16 || api.Regs != 8 {
		t.Fatalf("MaxFrames, Regs are %d, %d", api.MaxFrames, api.Regs)
	}
	for most := 0; most <= 16; most++ {
		s := New(most)
		bare(t, s)
		for i := range most {
			if !s.Push(i) {
				t.Errorf("New(%d): frame %d is refused", most, i)
			}
			topIs(t, s, i+1, Frame{Code: i})
		}
		for range 2 {
			if s.Push(99, 9) {
				t.Errorf("New(%d): one frame more is taken", most)
			}
		}
		if got := s.Depth(); got != most {
			t.Errorf("New(%d): Depth is %d", most, got)
		}
	}
}

// P5.1: a stack of as many frames as there may not be has room for none.
func TestNewWrong(t *testing.T) {
	for _, most := range []int{-1, -2, -16, 17, 18, 32, 256, 1 << 32, 1<<32 + 1, math.MaxInt, math.MinInt, math.MinInt + 1} {
		s := New(most)
		bare(t, s)
		if s.Push(1) || s.Push(1, 2, 3) {
			t.Errorf("New(%d): a frame is taken", most)
		}
		s.Clear()
		if s.Push(1) {
			t.Errorf("New(%d): a frame is taken behind Clear", most)
		}
		bare(t, s)
	}
}

// P5.1: a pushed frame is of that code, at Pc 0, its first registers as said, the others 0.
func TestPush(t *testing.T) {
	regs := []int64{1, -2, 3, math.MaxInt64, math.MinInt64, 6, 7, 8}
	for n := range len(regs) + 1 {
		for _, code := range []int{0, 1, 7, -1, math.MaxInt, math.MinInt} {
			s := New(2)
			if !s.Push(code, regs[:n]...) {
				t.Errorf("Push(%d) with %d registers is refused", code, n)
			}
			want := Frame{Code: code}
			for r := range n {
				want.Regs[r] = regs[r]
			}
			topIs(t, s, 1, want)
			for r := range regs {
				if x, ok := s.Get(r); x != want.Regs[r] || !ok {
					t.Errorf("%d registers said: Get(%d) is %d, %v, want %d, true", n, r, x, ok, want.Regs[r])
				}
			}
			popIs(t, s, want)
			bare(t, s)
		}
	}
}

// P5.1: no register said, nil said and an empty list are one.
func TestPushNoRegisters(t *testing.T) {
	s := New(3)
	if !s.Push(1) || !s.Push(2, nil...) || !s.Push(3, []int64{}...) {
		t.Error("a Push without registers is refused")
	}
	for code := 3; code >= 1; code-- {
		popIs(t, s, Frame{Code: code})
	}
	bare(t, s)
}

// P5.1: more registers than Regs, or more frames than most, are refused, and nothing is done.
func TestPushWrong(t *testing.T) {
	for _, n := range []int{api.Regs + 1, api.Regs + 2, 2 * api.Regs, 256, 4096} {
		for depth := range 3 {
			s := full(t, 3, depth)
			before := *s
			if s.Push(7, make([]int64, n)...) || s.Push(7, slices.Repeat([]int64{5}, n)...) {
				t.Errorf("%d registers are taken at depth %d", n, depth)
			}
			if *s != before {
				t.Errorf("%d registers refused at depth %d change the stack", n, depth)
			}
		}
	}
	for most := range api.MaxFrames + 1 {
		s := full(t, most, most)
		before := *s
		for n := range api.Regs + 2 {
			if s.Push(7, slices.Repeat([]int64{5}, n)...) {
				t.Errorf("a full stack of %d takes a frame of %d registers", most, n)
			}
		}
		if *s != before {
			t.Errorf("what a full stack of %d refuses changes it", most)
		}
	}
}

// P5.1: the last frame is the first one to go, down to none.
func TestPop(t *testing.T) {
	for depth := range api.MaxFrames + 1 {
		s := full(t, api.MaxFrames, depth)
		for i := depth - 1; i >= 0; i-- {
			topIs(t, s, i+1, Frame{Code: 100 + i, Regs: [8]int64{int64(i)}})
			popIs(t, s, Frame{Code: 100 + i, Regs: [8]int64{int64(i)}})
		}
		bare(t, s)
		if *s != *New(api.MaxFrames) {
			t.Errorf("%d popped frames leave something in the stack", depth)
		}
		if !s.Push(1) {
			t.Errorf("no frame is taken behind the popping of %d", depth)
		}
		topIs(t, s, 1, Frame{Code: 1})
	}
}

// P5.1: what is popped leaves room, and no trace in the frame that comes in its place.
func TestPushBehindPop(t *testing.T) {
	s := full(t, 2, 2)
	for r := range api.Regs {
		s.Set(r, -1)
	}
	s.Go(9)
	popIs(t, s, Frame{101, 9, [8]int64{-1, -1, -1, -1, -1, -1, -1, -1}})
	if !s.Push(5, 6) {
		t.Error("there is no room behind Pop")
	}
	topIs(t, s, 2, Frame{5, 0, [8]int64{6}})
	if s.Push(7) {
		t.Error("there is room for one frame too many behind Pop")
	}
	popIs(t, s, Frame{5, 0, [8]int64{6}})
	topIs(t, s, 1, Frame{Code: 100})
}

// P5.1: Go says the last frame's Pc, any number, and no other frame's.
func TestGo(t *testing.T) {
	s := full(t, 3, 1)
	for _, pc := range []int{3, 0, 1, -1, math.MaxInt, math.MinInt} {
		if !s.Go(pc) {
			t.Errorf("Go(%d) is refused", pc)
		}
		topIs(t, s, 1, Frame{Code: 100, Pc: pc})
	}
	s.Go(4)
	s.Push(7)
	topIs(t, s, 2, Frame{Code: 7})
	s.Go(5)
	s.Push(8)
	s.Go(6)
	popIs(t, s, Frame{Code: 8, Pc: 6})
	popIs(t, s, Frame{Code: 7, Pc: 5})
	popIs(t, s, Frame{Code: 100, Pc: 4})
}

// P5.1: a register is what it was set to last, whatever the number, and no other register is.
func TestSet(t *testing.T) {
	s := full(t, 1, 1)
	want := Frame{Code: 100}
	for i, x := range numbers() {
		for _, r := range registers() {
			y := x ^ int64(r)
			if !s.Set(r, y) {
				t.Errorf("Set(%d, %d) is refused", r, y)
			}
			want.Regs[r] = y
			topIs(t, s, 1, want)
			if got, ok := s.Get(r); got != y || !ok {
				t.Errorf("number %d: Get(%d) is %d, %v, want %d, true", i, r, got, ok, y)
			}
		}
	}
	for _, x := range numbers() {
		s.Set(0, x)
		s.Set(7, x)
		if got, ok := s.Get(0); got != x || !ok {
			t.Errorf("Get(0) is %d, %v, want %d, true", got, ok, x)
		}
		if got, ok := s.Get(7); got != x || !ok {
			t.Errorf("Get(7) is %d, %v, want %d, true", got, ok, x)
		}
	}
}

// P5.1: there is no register but from 0 to below Regs; what is refused changes nothing.
func TestSetWrong(t *testing.T) {
	s := full(t, 3, 2)
	s.Set(0, 11)
	s.Set(7, 12)
	before := *s
	for _, r := range noRegisters() {
		if s.Set(r, 5) {
			t.Errorf("Set(%d) is true", r)
		}
		if x, ok := s.Get(r); x != 0 || ok {
			t.Errorf("Get(%d) is %d, %v, want 0, false", r, x, ok)
		}
	}
	if *s != before {
		t.Error("a refused Set changes the stack")
	}
}

// P5.1: each frame has registers of its own, which stand while others come and go above.
func TestRegistersOfFrames(t *testing.T) {
	s := New(api.MaxFrames)
	for i := range api.MaxFrames {
		s.Push(i)
		for r := range api.Regs {
			s.Set(r, int64(100*i+r))
		}
		s.Go(-i)
	}
	for i := api.MaxFrames - 1; i >= 0; i-- {
		for r := range api.Regs {
			if x, ok := s.Get(r); x != int64(100*i+r) || !ok {
				t.Errorf("frame %d: Get(%d) is %d, %v", i, r, x, ok)
			}
		}
		s.Set(3, 1)
		if i+1 < api.MaxFrames {
			s.Push(50, 51, 52, 53, 54)
			s.Pop()
		}
		f, ok := s.Pop()
		if !ok || f.Code != i || f.Pc != -i || f.Regs[3] != 1 || f.Regs[4] != int64(100*i+4) {
			t.Errorf("frame %d is %v, %v", i, f, ok)
		}
	}
	bare(t, s)
}

// P5.1: Clear leaves no frame, and as much room as at first.
func TestClear(t *testing.T) {
	for most := range api.MaxFrames + 1 {
		for depth := range most + 1 {
			s := full(t, most, depth)
			s.Go(3)
			s.Set(7, 9)
			s.Clear()
			bare(t, s)
			s.Clear()
			bare(t, s)
			for i := range most {
				if !s.Push(i, 1) {
					t.Errorf("New(%d): frame %d is refused behind Clear", most, i)
				}
				topIs(t, s, i+1, Frame{Code: i, Regs: [8]int64{1}})
			}
			if s.Push(0) {
				t.Errorf("New(%d): one frame more is taken behind Clear", most)
			}
		}
	}
}

// P5.1, R5: two stacks know nothing of each other.
func TestTwoStacks(t *testing.T) {
	a, b := New(2), New(2)
	a.Push(1, 10)
	bare(t, b)
	b.Push(2, 20)
	b.Go(5)
	b.Set(1, 21)
	topIs(t, a, 1, Frame{1, 0, [8]int64{10}})
	a.Push(3)
	a.Clear()
	bare(t, a)
	topIs(t, b, 1, Frame{2, 5, [8]int64{20, 21}})
}

// P5.1, R4: the list of registers is neither changed, its spare room included, nor kept.
func TestListStays(t *testing.T) {
	room := []int64{1, 2, 3, 4, 5, 6, 7, 8, 9, 10}
	before := slices.Clone(room)
	for n := range api.Regs + 2 {
		s := New(2)
		ok := s.Push(7, room[:n]...)
		if ok != (n <= api.Regs) {
			t.Errorf("Push with %d registers is %v", n, ok)
		}
		if !ok {
			continue
		}
		for r := range api.Regs {
			s.Set(r, -1)
		}
		s.Pop()
		s.Push(8)
		if !slices.Equal(room, before) {
			t.Errorf("the list of %d registers becomes %v", n, room)
		}
	}
	s := New(1)
	s.Push(7, room[:8]...)
	for i := range room {
		room[i] = 99
	}
	topIs(t, s, 1, Frame{7, 0, [8]int64{1, 2, 3, 4, 5, 6, 7, 8}})
}

// P5.1: a frame that was told is a copy: neither turns with the other.
func TestFrameIsCopy(t *testing.T) {
	s := New(2)
	s.Push(7, 1, 2)
	f, _ := s.Top()
	f.Code, f.Pc, f.Regs[0], f.Regs[7] = 9, 9, 9, 9
	topIs(t, s, 1, Frame{7, 0, [8]int64{1, 2}})
	f, _ = s.Top()
	s.Set(0, 5)
	s.Go(6)
	if f != (Frame{7, 0, [8]int64{1, 2}}) {
		t.Errorf("a told frame becomes %v", f)
	}
	f, _ = s.Pop()
	s.Push(8, 3)
	s.Set(1, 4)
	if f != (Frame{7, 6, [8]int64{5, 2}}) {
		t.Errorf("a popped frame becomes %v", f)
	}
	f.Regs[0] = 11
	topIs(t, s, 1, Frame{8, 0, [8]int64{3, 4}})
}

// R7: a nil stack answers zero values, and none of its methods panics.
func TestNil(t *testing.T) {
	var s *Stack
	bare(t, s)
	if s.Push(1) || s.Push(1, 2) || s.Push(1, make([]int64, 9)...) {
		t.Error("a nil stack takes a frame")
	}
	s.Clear()
	bare(t, s)
}

// P5.1: in long rows of calls a stack has the frames that a plain list of them has.
func TestAgainstList(t *testing.T) {
	for seed := range uint64(170) {
		most := int(seed % (api.MaxFrames + 1))
		s, list, x := New(most), []Frame(nil), seed
		next := func(n int) int {
			x = x*6364136223846793005 + 1442695040888963407
			return int(x>>33) % n
		}
		for range 300 {
			list = walk(t, s, list, most, next)
			framesAre(t, s, list)
		}
	}
}

// walk does one call that changes the stack, and the same on the list.
func walk(t *testing.T, s *Stack, list []Frame, most int, next func(n int) int) []Frame {
	t.Helper()
	last := len(list) - 1
	ok, want := true, last >= 0
	switch call := next(40); {
	case call < 16:
		f := Frame{Code: next(100)}
		regs := []int64{1, 2, 3, 4, 5, 6, 7, 8, 9}[:next(10)]
		copy(f.Regs[:], regs)
		ok, want = s.Push(f.Code, regs...), len(list) < most && len(regs) <= api.Regs
		if want {
			list = append(list, f)
		}
	case call < 25:
		if _, ok = s.Pop(); want {
			list = list[:last]
		}
	case call < 32:
		pc := next(100)
		if ok = s.Go(pc); want {
			list[last].Pc = pc
		}
	case call < 39:
		r, y := next(api.Regs+2)-1, int64(next(100))
		ok, want = s.Set(r, y), want && r >= 0 && r < api.Regs
		if want {
			list[last].Regs[r] = y
		}
	default:
		s.Clear()
		list, want = nil, true
	}
	if ok != want {
		t.Fatalf("of %d frames, at most %d: a call is %v, want %v", last+1, most, ok, want)
	}
	return list
}

// framesAre asks for all frames of the stack, from the last one down, and leaves them there.
func framesAre(t *testing.T, s *Stack, list []Frame) {
	t.Helper()
	rest := *s
	for i := len(list) - 1; i >= 0; i-- {
		topIs(t, &rest, i+1, list[i])
		for r, want := range list[i].Regs {
			if x, ok := rest.Get(r); x != want || !ok {
				t.Fatalf("frame %d: Get(%d) is %d, %v, want %d, true", i, r, x, ok, want)
			}
		}
		popIs(t, &rest, list[i])
	}
	bare(t, &rest)
	if t.Failed() {
		t.FailNow()
	}
}

// P5.1: the chapter's example.
func TestExample(t *testing.T) {
	s := New(2)
	if !s.Push(7, 1, 2) {
		t.Error("Push(7, 1, 2) is false")
	}
	if x, ok := s.Get(1); x != 2 || !ok {
		t.Errorf("Get(1) is %d, %v", x, ok)
	}
	if !s.Go(3) {
		t.Error("Go(3) is false")
	}
	topIs(t, s, 1, Frame{7, 3, [8]int64{1, 2}})
}
