package judge

import (
	"fmt"
	"math"
	"math/rand"
	"slices"
	"testing"

	"allotment/api"
	"allotment/model"
	"allotment/plan"
)

// little is the shape of most tests: 2 pages, 3 clients.
var little = api.Shape{Pages: 2, Clients: 3, Mag: 2}

// tall is a shape with room for a block of MaxRun pages.
var tall = api.Shape{Pages: 9, Clients: 3, Mag: 0}

// most is how many words the greatest block has.
const most = api.MaxRun * api.PageWords

// history is a few events as they are written in a table.
type history []api.Event

func started(c int) api.Event { return api.Event{Kind: api.Started, Client: c} }
func killed(c int) api.Event  { return api.Event{Kind: api.Killed, Client: c} }

func invoked(c, kind, a, n int) api.Event {
	return api.Event{Kind: api.Invoked, Client: c, Op: api.Op{Kind: kind, A: a, N: n}}
}

func malloc(c, n int) api.Event     { return invoked(c, api.Malloc, 0, n) }
func free(c, a int) api.Event       { return invoked(c, api.Free, a, 0) }
func realloc(c, a, n int) api.Event { return invoked(c, api.Realloc, a, n) }
func adopt(c, a int) api.Event      { return invoked(c, api.Adopt, a, 0) }

func took(c, at, n int) api.Event { return api.Event{Kind: api.Took, Client: c, At: at, N: n} }
func gave(c, at int) api.Event    { return api.Event{Kind: api.Gave, Client: c, At: at} }

func answered(c int, err api.Errno, at int) api.Event {
	return api.Event{Kind: api.Answered, Client: c, Err: err, At: at}
}

// with is a history and what follows.
func with(l history, more ...api.Event) history {
	return append(slices.Clone(l), more...)
}

// block is a history in which client c takes n words at at.
func block(c, at, n int) history {
	length, _ := plan.Length(n)
	return history{malloc(c, n), took(c, at, length), answered(c, api.OK, at)}
}

// all starts clients 0, 1 and 2.
func all(more ...api.Event) history {
	return with(history{started(0), started(1), started(2)}, more...)
}

// ruled asks Rule of a history, and Hear and Ruling of each event of it.
func ruled(t *testing.T, s api.Shape, l history, want Ruling) {
	t.Helper()
	if got := Rule(s, l); got != want {
		t.Errorf("Rule of %v is %v, want %v", l, got, want)
	}
	j := New(s)
	for i, e := range l {
		well := want.At < 0 || i < want.At
		if got := j.Hear(e); got != well {
			t.Errorf("Hear of event %d of %v is %v", i, l, got)
		}
		now := want
		if well {
			now = Ruling{At: -1, Why: Fine}
		}
		if got := j.Ruling(); got != now {
			t.Errorf("Ruling behind event %d of %v is %v, want %v", i, l, got, now)
		}
	}
}

// fine wants a history to be in order.
func fine(t *testing.T, s api.Shape, l history) {
	t.Helper()
	ruled(t, s, l, Ruling{At: -1, Why: Fine})
}

// wrong wants the last event of a history to be the first that is not so.
func wrong(t *testing.T, s api.Shape, l history, why int) {
	t.Helper()
	ruled(t, s, l, Ruling{At: len(l) - 1, Why: why})
}

// far is numbers far from each that is in its place.
func far() []int {
	return []int{math.MinInt, math.MinInt + 1, -1 << 32, -4096, -1, 4096, 1 << 31, 1 << 32, math.MaxInt - 1, math.MaxInt}
}

// errs is each error, and numbers that are none.
func errs() []api.Errno {
	l := []api.Errno{math.MinInt, -1, api.ErrLimit + 1, math.MaxInt}
	for e := api.ErrArg; e <= api.ErrLimit; e++ {
		l = append(l, e)
	}
	return l
}

// P7.1: the chapter's example.
func TestExample(t *testing.T) {
	fine(t, little, history{started(0), malloc(0, 4), took(0, 0, 4), answered(0, api.OK, 0)})
}

// P7.1: the reasons' numbers are in the order in which the chapter names them.
func TestReasons(t *testing.T) {
	if got := [...]int{Fine, Order, Overlap, Double, Answer, Silent}; got != [...]int{0, 1, 2, 3, 4, 5} {
		t.Errorf("the reasons are %v", got)
	}
}

// P7.1: an empty history is well: At -1 and Fine.
func TestEmpty(t *testing.T) {
	fine(t, little, nil)
	fine(t, little, history{})
	if got := New(little).Ruling(); got != (Ruling{At: -1, Why: Fine}) {
		t.Errorf("Ruling of a new judge is %v", got)
	}
}

// P7.1: histories in order: of each kind of operation, answered with OK and with each error that is its own, of several clients at a time.
func TestInOrder(t *testing.T) {
	held := with(all(), block(0, 64, 5)...)
	for _, l := range []history{
		all(malloc(0, 1), took(0, 4, 4), answered(0, api.OK, 4)),
		all(malloc(0, 33), took(0, 64, 64), answered(0, api.OK, 64)),
		all(malloc(0, 65), took(0, 0, 128), answered(0, api.OK, 0)),
		all(malloc(0, 8), answered(0, api.ErrNoMemory, 0)),
		all(malloc(0, 0), answered(0, api.ErrArg, 0)),
		all(malloc(0, 0), answered(0, api.ErrNoMemory, 0)),
		with(held, free(1, 64), gave(1, 64), answered(1, api.OK, 0)),
		with(held, free(1, 68), answered(1, api.ErrArg, 0)),
		with(held, realloc(1, 64, 9), gave(1, 64), took(1, 32, 16), answered(1, api.OK, 32)),
		with(held, realloc(1, 64, 9), gave(1, 64), took(1, 64, 16), answered(1, api.OK, 64)),
		with(held, realloc(1, 64, 9), answered(1, api.ErrNoMemory, 0)),
		with(held, realloc(1, 60, 9), answered(1, api.ErrArg, 0)),
		with(held, realloc(1, 64, -1), answered(1, api.ErrArg, 0)),
		all(adopt(2, 1), answered(2, api.OK, 0)),
		all(adopt(2, 1), answered(2, api.ErrArg, 0)),
		all(adopt(2, 1), answered(2, api.ErrBusy, 0)),
		all(adopt(2, 1), answered(2, api.ErrState, 0)),
		with(held, free(1, 64), gave(1, 64), malloc(0, 5), took(0, 64, 8), answered(1, api.OK, 0), answered(0, api.OK, 64), free(2, 64), gave(2, 64), answered(2, api.OK, 0)),
		with(held, malloc(0, 9), free(1, 64), adopt(2, 0), gave(1, 64), took(0, 64, 16), answered(2, api.ErrState, 0), killed(2), answered(1, api.OK, 0), answered(0, api.OK, 64)),
	} {
		fine(t, little, l)
	}
}

// P7.1: what is taken is in the model's heap, which has PageWords words for each page; what is given is in it no more.
func TestPlays(t *testing.T) {
	j := New(little)
	for _, e := range all(malloc(0, 5), malloc(1, 33), took(1, 64, 64), took(0, 8, 8)) {
		j.Hear(e)
	}
	if got := j.Blocks(); !slices.Equal(got, []model.Block{{At: 8, N: 8}, {At: 64, N: 64}}) {
		t.Errorf("Blocks is %v", got)
	}
	if j.Used() != 72 || !j.Room(48) || j.Room(49) {
		t.Errorf("Used is %d, of 128 words", j.Used())
	}
	j.Hear(answered(0, api.OK, 8))
	j.Hear(free(0, 8))
	if b, ok := j.At(8); !ok || b.N != 8 {
		t.Errorf("At(8) is %v, %v ahead of Gave", b, ok)
	}
	j.Hear(gave(0, 8))
	if b, ok := j.Inside(8); ok || j.Used() != 64 {
		t.Errorf("Inside(8) is %v behind Gave", b)
	}
}

// P7.1: Started: a client from 0 to below Clients that never was.
func TestStarted(t *testing.T) {
	for clients := 1; clients <= api.MaxClients; clients++ {
		s := api.Shape{Pages: 1, Clients: clients}
		l := history{}
		for c := range clients {
			wrong(t, s, with(l, started(clients)), Order)
			l = with(l, started(c))
			fine(t, s, l)
			wrong(t, s, with(l, started(c)), Order)
			wrong(t, s, with(l, killed(c), started(c)), Order)
		}
		for _, c := range append(far(), clients, clients+1) {
			wrong(t, s, with(l, started(c)), Order)
		}
	}
}

// P7.1: every other event: of a client that lives.
func TestLives(t *testing.T) {
	for _, e := range []func(int) api.Event{
		killed,
		func(c int) api.Event { return malloc(c, 4) },
		func(c int) api.Event { return free(c, 0) },
		func(c int) api.Event { return realloc(c, 0, 4) },
		func(c int) api.Event { return adopt(c, 0) },
		func(c int) api.Event { return took(c, 0, 4) },
		func(c int) api.Event { return gave(c, 0) },
		func(c int) api.Event { return answered(c, api.OK, 0) },
		func(c int) api.Event { return answered(c, api.ErrArg, 0) },
	} {
		for c := range 3 {
			wrong(t, little, history{e(c)}, Order)
			wrong(t, little, history{started(c), killed(c), e(c)}, Order)
			wrong(t, little, history{started(c), malloc(c, 4), killed(c), e(c)}, Order)
			wrong(t, little, history{started(c), adopt(c, 0), killed(c), e(c)}, Order)
			wrong(t, little, history{started((c + 1) % 3), malloc((c+1)%3, 4), e(c)}, Order)
		}
		for _, c := range append(far(), 3, 4) {
			wrong(t, little, all(e(c)), Order)
		}
	}
}

// P7.1: Killed: one that lives, with an operation or without.
func TestKilled(t *testing.T) {
	for c := range 3 {
		fine(t, little, all(killed(c)))
		fine(t, little, all(malloc(c, 4), killed(c), killed((c+1)%3)))
		wrong(t, little, all(killed(c), killed(c)), Order)
	}
}

// P7.1: Invoked: one that has no operation, of kind Malloc, Free, Realloc or Adopt, whatever its numbers are.
func TestInvoked(t *testing.T) {
	for _, kind := range append(far(), 0, 5, 6) {
		wrong(t, little, all(invoked(0, kind, 0, 4)), Order)
	}
	for kind := api.Malloc; kind <= api.Adopt; kind++ {
		for _, n := range append(far(), 0, 1) {
			fine(t, little, all(invoked(0, kind, n, n)))
		}
		for other := -1; other <= 5; other++ {
			wrong(t, little, all(invoked(0, kind, 0, 4), invoked(0, other, 0, 4)), Order)
		}
		fine(t, little, all(invoked(0, kind, 0, 4), malloc(1, 4), adopt(2, 0)))
	}
	fine(t, little, with(all(), append(block(0, 0, 4), malloc(0, 4))...))
}

// P7.1: Took, Gave, Answered: one that has an operation, which one that was answered has no more.
func TestHasOperation(t *testing.T) {
	held := with(all(), block(0, 0, 4)...)
	freed := with(held, free(1, 0), gave(1, 0), answered(1, api.OK, 0))
	for _, l := range []history{all(), all(malloc(1, 4), adopt(2, 0)), held, freed, all(malloc(0, 4), answered(0, api.ErrNoMemory, 0))} {
		for _, e := range []api.Event{took(0, 64, 4), gave(0, 0), answered(0, api.OK, 0), answered(0, api.ErrArg, 0), answered(0, api.ErrNoMemory, 0)} {
			wrong(t, little, with(l, e), Order)
		}
	}
}

// P7.1: an event of a Kind that is none: Order, of whomever.
func TestNoKind(t *testing.T) {
	for _, kind := range append(far(), api.Answered+1, api.Answered+2) {
		for c := -1; c <= 3; c++ {
			e := malloc(c, 4)
			e.Kind = kind
			wrong(t, little, history{e}, Order)
			wrong(t, little, all(e), Order)
			wrong(t, little, all(malloc(0, 4), e), Order)
		}
	}
}

// P7.1: Overlap: what is Taken does not lie within the heap, or a word of it is in another block.
func TestOverlap(t *testing.T) {
	held := with(with(all(), block(0, 16, 16)...), malloc(1, 8))
	for at := -12; at <= 140; at++ {
		l := with(held, took(1, at, 8))
		if at >= 0 && at <= 8 || at >= 32 && at <= 120 {
			fine(t, little, l)
		} else {
			wrong(t, little, l, Overlap)
		}
	}
	for _, at := range far() {
		wrong(t, little, with(held, took(1, at, 8)), Overlap)
	}
	wrong(t, little, all(malloc(0, 65), took(0, 64, 128)), Overlap)
	wrong(t, little, all(malloc(0, 129), took(0, 0, 192)), Overlap)
	wrong(t, little, all(malloc(0, 4), malloc(1, 4), took(1, 0, 4), took(0, 0, 4)), Overlap)
	wrong(t, little, with(held, realloc(0, 16, 8), gave(0, 16), took(1, 16, 8), took(0, 16, 8)), Overlap)
}

// P7.1: Double: no block begins where one is Given: there never was one, or it is gone, or it begins elsewhere.
func TestDouble(t *testing.T) {
	held := with(all(), block(0, 16, 16)...)
	for at := -12; at <= 140; at++ {
		for _, e := range []api.Event{free(1, at), realloc(1, at, 4)} {
			l := with(held, e, gave(1, at))
			if at == 16 {
				fine(t, little, l)
			} else {
				wrong(t, little, l, Double)
			}
		}
	}
	for _, at := range far() {
		wrong(t, little, with(held, free(1, at), gave(1, at)), Double)
	}
	wrong(t, little, with(held, free(1, 16), free(2, 16), gave(2, 16), gave(1, 16)), Double)
	wrong(t, little, with(held, free(1, 16), realloc(2, 16, 4), gave(2, 16), took(2, 0, 4), gave(1, 16)), Double)
}

// P7.1: Malloc Takes once, and Gives nothing.
func TestMallocSilent(t *testing.T) {
	held := with(all(), block(1, 16, 16)...)
	fine(t, little, with(held, malloc(0, 4), took(0, 0, 4)))
	wrong(t, little, with(held, malloc(0, 4), took(0, 0, 4), took(0, 4, 4)), Silent)
	for _, at := range []int{0, 16, -1} {
		wrong(t, little, with(held, invoked(0, api.Malloc, at, 4), gave(0, at)), Silent)
		wrong(t, little, with(held, invoked(0, api.Malloc, at, 4), took(0, 0, 4), gave(0, at)), Silent)
	}
}

// P7.1: Free Gives once, the address A, and Takes nothing.
func TestFreeSilent(t *testing.T) {
	held := with(with(all(), block(1, 16, 16)...), block(1, 64, 4)...)
	fine(t, little, with(held, free(0, 16), gave(0, 16)))
	for _, at := range []int{0, 15, 17, 20, 64, -1, math.MaxInt, math.MinInt} {
		wrong(t, little, with(held, free(0, 16), gave(0, at)), Silent)
		wrong(t, little, with(held, free(0, 16), gave(0, 16), gave(0, at)), Silent)
	}
	wrong(t, little, with(held, free(0, 16), gave(0, 16), gave(0, 16)), Silent)
	wrong(t, little, with(held, invoked(0, api.Free, 16, 4), took(0, 0, 4)), Silent)
	wrong(t, little, with(held, invoked(0, api.Free, 16, 4), gave(0, 16), took(0, 0, 4)), Silent)
	again := with(held, free(0, 16), gave(0, 16), malloc(2, 9), took(2, 16, 16))
	wrong(t, little, with(again, gave(0, 16)), Silent)
}

// P7.1: Realloc Gives A once, then Takes once.
func TestReallocSilent(t *testing.T) {
	held := with(with(all(), block(1, 16, 16)...), with(block(1, 64, 4), realloc(0, 16, 4))...)
	fine(t, little, with(held, gave(0, 16), took(0, 0, 4)))
	wrong(t, little, with(held, took(0, 0, 4)), Silent)
	wrong(t, little, with(held, gave(0, 64)), Silent)
	wrong(t, little, with(held, gave(0, 0)), Silent)
	wrong(t, little, with(held, gave(0, 16), gave(0, 16)), Silent)
	wrong(t, little, with(held, gave(0, 16), gave(0, 64)), Silent)
	wrong(t, little, with(held, gave(0, 16), took(0, 0, 4), took(0, 4, 4)), Silent)
	wrong(t, little, with(held, gave(0, 16), took(0, 16, 4), gave(0, 16)), Silent)
	wrong(t, little, with(held, gave(0, 16), took(0, 0, 4), gave(0, 64)), Silent)
}

// P7.1: Adopt neither Takes nor Gives.
func TestAdoptSilent(t *testing.T) {
	held := with(all(), block(1, 16, 16)...)
	for _, a := range []int{0, 1, 16} {
		wrong(t, little, with(held, invoked(0, api.Adopt, a, 4), took(0, 0, 4)), Silent)
		wrong(t, little, with(held, invoked(0, api.Adopt, a, 4), gave(0, a)), Silent)
		wrong(t, little, with(held, invoked(0, api.Adopt, a, 4), gave(0, 16)), Silent)
	}
}

// P7.1: what is Taken has plan.Length of the operation's N: nothing, if there is no such block.
func TestLengthSilent(t *testing.T) {
	for _, c := range []struct{ n, length int }{
		{1, 4}, {4, 4}, {5, 8}, {8, 8}, {9, 16}, {16, 16}, {17, 32}, {32, 32}, {33, 64}, {64, 64}, {65, 128}, {128, 128}, {129, 192}, {most - 1, most}, {most, most},
		{0, 0}, {-1, 0}, {most + 1, 0}, {math.MaxInt, 0}, {math.MinInt, 0},
	} {
		ahead := []history{
			all(malloc(0, c.n)),
			with(with(all(), block(1, 0, 4)...), realloc(0, 0, c.n), gave(0, 0)),
		}
		for _, l := range ahead {
			for _, n := range append(far(), c.n, 0, 1, 4, 8, 16, 32, 64, 128, 192, most-64, most, most+64) {
				if c.length > 0 && n == c.length {
					fine(t, tall, with(l, took(0, 0, n)))
				} else {
					wrong(t, tall, with(l, took(0, 0, n)), Silent)
				}
			}
		}
	}
}

// P7.1: with OK: a Malloc or Realloc that Took, and At is where.
func TestAnswerTook(t *testing.T) {
	held := with(all(), block(1, 16, 16)...)
	for _, l := range []history{with(held, malloc(0, 4)), with(held, realloc(0, 16, 4)), with(held, realloc(0, 16, 4), gave(0, 16))} {
		for _, at := range append(far(), 0, 16) {
			wrong(t, little, with(l, answered(0, api.OK, at)), Answer)
		}
	}
	for _, where := range []int{0, 4, 64} {
		for _, l := range []history{with(held, malloc(0, 4)), with(held, realloc(0, 16, 4), gave(0, 16))} {
			l = with(l, took(0, where, 4))
			for _, at := range append(far(), 0, 4, 16, 64) {
				if at == where {
					fine(t, little, with(l, answered(0, api.OK, at)))
				} else {
					wrong(t, little, with(l, answered(0, api.OK, at)), Answer)
				}
			}
		}
	}
	fine(t, little, all(malloc(0, 4), took(0, 8, 4), free(1, 8), gave(1, 8), malloc(2, 4), took(2, 8, 4), answered(0, api.OK, 8), answered(2, api.OK, 8)))
}

// P7.1: with OK: a Free that Gave, an Adopt: At 0.
func TestAnswerGave(t *testing.T) {
	held := with(all(), block(1, 16, 16)...)
	for _, at := range append(far(), 0, 1, 16) {
		wrong(t, little, with(held, free(0, 16), answered(0, api.OK, at)), Answer)
		wrong(t, little, with(held, free(0, 0), answered(0, api.OK, at)), Answer)
		for _, l := range []history{with(held, free(0, 16), gave(0, 16)), with(held, adopt(0, 1)), with(held, adopt(0, 16))} {
			l = with(l, answered(0, api.OK, at))
			if at == 0 {
				fine(t, little, l)
			} else {
				wrong(t, little, l, Answer)
			}
		}
	}
}

// P7.1: with an error: an operation that neither Took nor Gave.
func TestErrorBehindEffect(t *testing.T) {
	held := with(all(), block(1, 16, 16)...)
	for _, l := range []history{
		with(held, malloc(0, 4), took(0, 0, 4)),
		with(held, free(0, 16), gave(0, 16)),
		with(held, realloc(0, 16, 4), gave(0, 16)),
		with(held, realloc(0, 16, 0), gave(0, 16)),
		with(held, realloc(0, 16, 4), gave(0, 16), took(0, 0, 4)),
	} {
		for _, err := range errs() {
			wrong(t, little, with(l, answered(0, err, 0)), Answer)
		}
	}
}

// P7.1: which error each kind of operation may be answered with, where no block begins at A and where one does, of an N that is in its place and of one that is not; At 0.
func TestErrors(t *testing.T) {
	held := with(all(), block(1, 0, 4)...)
	for _, c := range []struct {
		kind, a, n int
		may        []api.Errno
	}{
		{api.Malloc, 0, 4, []api.Errno{api.ErrNoMemory}},
		{api.Malloc, 4, 4, []api.Errno{api.ErrNoMemory}},
		{api.Malloc, 0, 0, []api.Errno{api.ErrArg, api.ErrNoMemory}},
		{api.Free, 0, 4, nil},
		{api.Free, 0, 0, nil},
		{api.Free, 4, 4, []api.Errno{api.ErrArg}},
		{api.Free, 4, 0, []api.Errno{api.ErrArg}},
		{api.Realloc, 0, 4, []api.Errno{api.ErrNoMemory}},
		{api.Realloc, 0, 0, []api.Errno{api.ErrArg, api.ErrNoMemory}},
		{api.Realloc, 4, 4, []api.Errno{api.ErrArg, api.ErrNoMemory}},
		{api.Realloc, 4, 0, []api.Errno{api.ErrArg, api.ErrNoMemory}},
		{api.Adopt, 0, 4, []api.Errno{api.ErrArg, api.ErrBusy, api.ErrState}},
		{api.Adopt, 4, 0, []api.Errno{api.ErrArg, api.ErrBusy, api.ErrState}},
	} {
		l := with(held, invoked(0, c.kind, c.a, c.n))
		for _, err := range errs() {
			for _, at := range append(far(), 0, 1, 4) {
				if at == 0 && slices.Contains(c.may, err) {
					fine(t, little, with(l, answered(0, err, at)))
				} else {
					wrong(t, little, with(l, answered(0, err, at)), Answer)
				}
			}
		}
	}
}

// P7.1: ErrArg of a Malloc, a Realloc: N is not from 1 to MaxRun PageWords.
func TestErrArgOfN(t *testing.T) {
	held := with(all(), block(1, 0, 4)...)
	for _, n := range append(far(), 0, 1, 2, 64, 65, most-1, most, most+1) {
		for _, e := range []api.Event{malloc(0, n), realloc(0, 0, n)} {
			l := with(held, e, answered(0, api.ErrArg, 0))
			if n >= 1 && n <= most {
				wrong(t, tall, l, Answer)
			} else {
				fine(t, tall, l)
			}
		}
		wrong(t, tall, with(held, invoked(0, api.Free, 0, n), answered(0, api.ErrArg, 0)), Answer)
	}
}

// P7.1: ErrArg of a Free, a Realloc: there was a moment since it was invoked at which no block began at A.
func TestErrArgOfA(t *testing.T) {
	held := with(all(), block(1, 16, 16)...)
	away := history{free(1, 16), gave(1, 16)}
	back := history{malloc(2, 9), took(2, 16, 16)}
	for _, e := range []api.Event{free(0, 16), realloc(0, 16, 4)} {
		end := answered(0, api.ErrArg, 0)
		wrong(t, little, with(held, e, end), Answer)
		wrong(t, little, with(held, e, adopt(2, 1), answered(2, api.OK, 0), malloc(1, 4), took(1, 0, 4), end), Answer)
		fine(t, little, with(held, with(history{e}, with(away, end)...)...))
		fine(t, little, with(held, with(history{e}, with(away, with(back, end)...)...)...))
		fine(t, little, with(with(held, away...), e, end))
		fine(t, little, with(with(held, away...), with(history{e}, with(back, end)...)...))
		wrong(t, little, with(with(held, away...), with(back, e, end)...), Answer)
		fine(t, little, with(held, e, realloc(1, 16, 9), gave(1, 16), took(1, 16, 16), end))
		again := with(held, with(away, with(back, answered(1, api.OK, 0), answered(2, api.OK, 16))...)...)
		wrong(t, little, with(again, e, end), Answer)
	}
	for _, a := range append(far(), 0, 15, 17, 31, 32) {
		fine(t, little, with(held, free(0, a), answered(0, api.ErrArg, 0)))
		fine(t, little, with(held, realloc(0, a, 4), answered(0, api.ErrArg, 0)))
	}
}

// P7.1: a moment is the operation's own: that a block was missed while another one was on its way says nothing.
func TestMomentIsOnesOwn(t *testing.T) {
	l := all(free(0, 16), answered(0, api.ErrArg, 0), malloc(1, 9), took(1, 16, 16), free(0, 16))
	wrong(t, little, with(l, answered(0, api.ErrArg, 0)), Answer)
	l = all(free(0, 16), malloc(1, 9), took(1, 16, 16), realloc(2, 16, 4))
	fine(t, little, with(l, answered(0, api.ErrArg, 0)))
	wrong(t, little, with(l, answered(2, api.ErrArg, 0)), Answer)
}

// P7.1: of several reasons: Order, then Silent, then Overlap or Double; Answer is the last.
func TestWhichReason(t *testing.T) {
	held := with(all(), block(1, 16, 16)...)
	wrong(t, little, with(held, took(0, 16, 5)), Order)
	wrong(t, little, with(held, gave(0, 99)), Order)
	wrong(t, little, with(held, answered(0, api.ErrLimit, 9)), Order)
	wrong(t, little, with(held, malloc(0, 4), took(0, 16, 5)), Silent)
	wrong(t, little, with(held, malloc(0, 4), took(0, 0, 4), took(0, 0, 4)), Silent)
	wrong(t, little, with(held, adopt(0, 16), took(0, 16, 0)), Silent)
	wrong(t, little, with(held, realloc(0, 16, 4), took(0, 16, 4)), Silent)
	wrong(t, little, with(held, malloc(0, 4), gave(0, 99)), Silent)
	wrong(t, little, with(held, free(0, 16), gave(0, 20)), Silent)
	wrong(t, little, with(held, free(0, 16), gave(0, 16), gave(0, 16)), Silent)
}

// P7.1: behind the first event that is not so Hear stays false, Ruling stays, and nothing is played any more.
func TestStays(t *testing.T) {
	held := with(all(), with(block(1, 16, 16), malloc(0, 4))...)
	for _, bad := range []struct {
		e   api.Event
		why int
	}{
		{started(0), Order}, {malloc(0, 4), Order}, {took(0, 16, 4), Overlap}, {took(0, 0, 8), Silent}, {answered(0, api.OK, 0), Answer},
	} {
		l := with(held, bad.e)
		more := history{took(0, 0, 4), answered(0, api.OK, 0), free(2, 16), gave(2, 16), killed(1), answered(0, api.ErrArg, 0), {Kind: 99}}
		ruled(t, little, with(l, more...), Ruling{At: len(held), Why: bad.why})
		j := New(little)
		for _, e := range with(l, more...) {
			j.Hear(e)
		}
		if got := j.Blocks(); !slices.Equal(got, []model.Block{{At: 16, N: 16}}) {
			t.Errorf("Blocks behind %v is %v", bad.e, got)
		}
		pends(t, j, map[int]api.Op{0: {Kind: api.Malloc, N: 4}})
	}
}

// R3: an event that is not so does nothing.
func TestRefusedDoesNothing(t *testing.T) {
	held := with(all(), block(1, 16, 16)...)
	ops := map[int]api.Op{0: {Kind: api.Realloc, A: 16, N: 4}, 2: {Kind: api.Malloc, N: 8}}
	for _, e := range []api.Event{started(0), killed(2), malloc(0, 4), took(0, 64, 4), took(2, 40, 8), gave(0, 20), gave(2, 16), answered(0, api.OK, 0), answered(2, api.ErrNoMemory, 0), {Kind: -1}} {
		j := New(little)
		for _, e := range with(held, realloc(0, 16, 4), malloc(2, 8), took(2, 32, 8)) {
			j.Hear(e)
		}
		if j.Hear(e) {
			t.Errorf("%v is heard", e)
		}
		if got := j.Blocks(); !slices.Equal(got, []model.Block{{At: 16, N: 16}, {At: 32, N: 8}}) {
			t.Errorf("Blocks behind %v is %v", e, got)
		}
		pends(t, j, ops)
	}
}

// pends asks a judge of 3 clients what is on its way.
func pends(t *testing.T, j *Judge, want map[int]api.Op) {
	t.Helper()
	for c := -1; c <= 3; c++ {
		op, ok := want[c]
		if got, there := j.Pending(c); got != op || there != ok {
			t.Errorf("Pending(%d) is %v, %v, want %v, %v", c, got, there, op, ok)
		}
	}
}

// P7.2: an operation of a killed client is no more pending; it must not have Taken: Silent, at Killed.
func TestKilledWithOperation(t *testing.T) {
	held := with(all(), block(1, 16, 16)...)
	for _, l := range []history{
		with(held, malloc(0, 4)),
		with(held, free(0, 16)),
		with(held, free(0, 16), gave(0, 16)),
		with(held, realloc(0, 16, 4)),
		with(held, realloc(0, 16, 4), gave(0, 16)),
		with(held, adopt(0, 1)),
		with(held, malloc(0, 4), took(0, 0, 4), answered(0, api.OK, 0)),
		with(held, malloc(0, 4), took(0, 0, 4), answered(0, api.OK, 0), malloc(0, 4)),
	} {
		l = with(l, killed(0))
		fine(t, little, l)
		j := New(little)
		for _, e := range l {
			j.Hear(e)
		}
		pends(t, j, nil)
		for _, e := range []api.Event{took(0, 64, 4), gave(0, 16), answered(0, api.OK, 0), killed(0), malloc(0, 4), started(0)} {
			wrong(t, little, with(l, e), Order)
		}
		fine(t, little, with(l, with(block(2, 64, 4), killed(1), free(2, 64), gave(2, 64), killed(2))...))
	}
	wrong(t, little, with(held, malloc(0, 4), took(0, 0, 4), killed(0)), Silent)
	wrong(t, little, with(held, realloc(0, 16, 4), gave(0, 16), took(0, 0, 4), killed(0)), Silent)
	wrong(t, little, with(held, malloc(0, 4), took(0, 0, 4), free(1, 0), gave(1, 0), killed(0)), Silent)
	fine(t, little, with(held, malloc(0, 4), took(0, 0, 4), killed(1), answered(0, api.OK, 0), killed(0)))
}

// P7.2: what a killed client took ahead, and what it gave, stays as it is.
func TestKilledLeavesBlocks(t *testing.T) {
	l := with(all(), with(block(0, 16, 16), with(block(0, 64, 4), free(0, 64), gave(0, 64), killed(0))...)...)
	wrong(t, little, with(l, malloc(1, 4), took(1, 16, 4)), Overlap)
	wrong(t, little, with(l, free(1, 64), gave(1, 64)), Double)
	fine(t, little, with(l, malloc(1, 33), took(1, 64, 64), answered(1, api.OK, 64), free(1, 16), gave(1, 16)))
}

// P7.2: Pending is the client's operation, from Invoked to Answered; of no client that there is not.
func TestPending(t *testing.T) {
	for _, op := range []api.Op{
		{Kind: api.Malloc, A: 3, N: 4}, {Kind: api.Free, A: -7, N: 9}, {Kind: api.Realloc, A: 5, N: 600}, {Kind: api.Adopt, A: math.MaxInt, N: math.MinInt},
	} {
		j := New(little)
		pends(t, j, nil)
		j.Hear(started(1))
		pends(t, j, nil)
		j.Hear(invoked(1, op.Kind, op.A, op.N))
		pends(t, j, map[int]api.Op{1: op})
		j.Hear(started(2))
		j.Hear(malloc(2, 4))
		pends(t, j, map[int]api.Op{1: op, 2: {Kind: api.Malloc, N: 4}})
		j.Hear(took(2, 0, 4))
		pends(t, j, map[int]api.Op{1: op, 2: {Kind: api.Malloc, N: 4}})
		j.Hear(answered(2, api.OK, 0))
		pends(t, j, map[int]api.Op{1: op})
		j.Hear(killed(1))
		pends(t, j, nil)
		for _, c := range far() {
			if got, ok := j.Pending(c); ok || got != (api.Op{}) {
				t.Errorf("Pending(%d) is %v, %v", c, got, ok)
			}
		}
	}
}

// P7.2: of the greatest shape each client has its own operation.
func TestPendingOfEach(t *testing.T) {
	j := New(api.Shape{Pages: api.MaxPages, Clients: api.MaxClients, Mag: api.MaxMag})
	for c := range api.MaxClients {
		if !j.Hear(started(c)) || !j.Hear(malloc(c, 100+c)) {
			t.Errorf("client %d is refused", c)
		}
	}
	for c := range api.MaxClients {
		if op, ok := j.Pending(c); !ok || op.N != 100+c {
			t.Errorf("Pending(%d) is %v, %v", c, op, ok)
		}
	}
	if !j.Room(api.MaxPages * api.PageWords) {
		t.Error("the greatest heap has no room")
	}
}

// P7.1: of a shape that may not be: a judge without words and clients.
func TestShapeThatMayNotBe(t *testing.T) {
	shapes := []api.Shape{
		{}, {Pages: 0, Clients: 1}, {Pages: 1, Clients: 0}, {Pages: 1, Clients: 1, Mag: -1}, {Pages: -1, Clients: 1}, {Pages: 1, Clients: -1},
		{Pages: api.MaxPages + 1, Clients: 1}, {Pages: 1, Clients: api.MaxClients + 1}, {Pages: 1, Clients: 1, Mag: api.MaxMag + 1},
		{Pages: math.MaxInt, Clients: math.MaxInt, Mag: math.MaxInt}, {Pages: math.MinInt, Clients: math.MinInt, Mag: math.MinInt}, {Pages: 1 << 58, Clients: 1},
	}
	for _, s := range shapes {
		fine(t, s, nil)
		j := New(s)
		if j == nil || j.Model == nil {
			t.Fatalf("New(%v) has no model", s)
		}
		if j.Room(1) || j.Used() != 0 || len(j.Blocks()) != 0 {
			t.Errorf("New(%v) has words", s)
		}
		pends(t, j, nil)
		for _, c := range append(far(), 0, 1) {
			wrong(t, s, history{started(c)}, Order)
			wrong(t, s, history{malloc(c, 4)}, Order)
		}
	}
}

// P7.1: what the chapter does not name of an event plays no part.
func TestOtherFields(t *testing.T) {
	l := with(all(), malloc(0, 4), took(0, 8, 4), answered(0, api.OK, 8), free(1, 8), gave(1, 8), answered(1, api.OK, 0), killed(2))
	for i := range l {
		e := &l[i]
		if e.Kind != api.Invoked {
			e.Op = api.Op{Kind: 9, A: 9, N: 9}
		}
		if e.Kind != api.Took {
			e.N = 77
		}
		if e.Kind != api.Took && e.Kind != api.Gave && e.Kind != api.Answered {
			e.At = -5
		}
		if e.Kind != api.Answered {
			e.Err = api.ErrLimit
		}
	}
	fine(t, little, l)
}

// R4: Rule changes nothing of the list that it is handed, spare room included; Hear keeps nothing of it.
func TestListIsNotChanged(t *testing.T) {
	room := make(history, 0, 20)
	room = append(room, all(malloc(0, 4), took(0, 0, 4), answered(0, api.OK, 0), started(0))...)
	full := room[:cap(room)]
	for i := len(room); i < len(full); i++ {
		full[i] = api.Event{Kind: 50 + i}
	}
	before := slices.Clone(full)
	first := Rule(little, room)
	if !slices.Equal(full, before) {
		t.Error("Rule changes what it is handed")
	}
	j := New(little)
	for _, e := range room[:len(room)-1] {
		j.Hear(e)
	}
	clear(full)
	if first != (Ruling{At: len(room) - 1, Why: Order}) || j.Ruling() != (Ruling{At: -1, Why: Fine}) || j.Used() != 4 {
		t.Error("what was answered became another, when the list did")
	}
}

// R5: two judges know nothing of each other.
func TestTwoJudges(t *testing.T) {
	one, two := New(little), New(little)
	for _, e := range all(malloc(0, 4), took(0, 0, 4)) {
		if !one.Hear(e) || !two.Hear(e) {
			t.Errorf("%v is refused", e)
		}
	}
	if one.Hear(started(0)) || !two.Hear(answered(0, api.OK, 0)) || !two.Hear(free(1, 0)) || !two.Hear(gave(1, 0)) {
		t.Error("one judge hears what the other one does")
	}
	pends(t, one, map[int]api.Op{0: {Kind: api.Malloc, N: 4}})
	pends(t, two, map[int]api.Op{1: {Kind: api.Free}})
	if one.Used() != 4 || two.Used() != 0 || one.Ruling() != (Ruling{At: 5, Why: Order}) || two.Ruling() != (Ruling{At: -1, Why: Fine}) {
		t.Error("one judge tells what the other one heard")
	}
}

// R7: a nil judge answers zero values.
func TestNil(t *testing.T) {
	var j *Judge
	if j.Hear(started(0)) || j.Hear(api.Event{Kind: -1, Client: -1}) || j.Ruling() != (Ruling{}) {
		t.Error("a nil judge hears")
	}
	pends(t, j, nil)
}

// R1: no event panics, whatever its numbers are, in whichever state.
func TestAnyNumbers(t *testing.T) {
	numbers := append(far(), 0, 4, 16)
	for kind := -1; kind <= api.Answered+1; kind++ {
		for _, a := range numbers {
			for _, b := range numbers {
				e := api.Event{Kind: kind, Client: 0, Op: api.Op{Kind: api.Realloc, A: a, N: b}, At: a, N: b, Err: api.Errno(b)}
				l := all(malloc(1, 9), took(1, 16, 16))
				Rule(little, with(l, e, e, invoked(0, api.Free, a, b), gave(0, a), answered(0, 0, b)))
				e.Client = a
				Rule(little, with(l, e, e))
			}
		}
	}
}

// P7.1, P7.2: at each state of many histories each of many events, against a judgement that is reckoned from the whole history anew.
func TestWalk(t *testing.T) {
	counts := map[int]int{}
	for seed := range int64(60) {
		r := rand.New(rand.NewSource(seed))
		s := api.Shape{Pages: 1 + r.Intn(3), Clients: 1 + r.Intn(3)}
		j, l := New(s), history{}
		for range 45 {
			next := []api.Event{}
			for _, e := range candidates(r, s, l) {
				why := judged(s, l, e)
				counts[why]++
				if why == Fine {
					next = append(next, e)
					fine(t, s, with(l, e))
				} else {
					wrong(t, s, with(l, e), why)
				}
			}
			if len(next) == 0 {
				continue
			}
			e := rare(r, next)
			if l = with(l, e); !j.Hear(e) {
				t.Fatalf("the last event of %v is refused", l)
			}
			if got, want := j.Blocks(), blocks(l); !slices.Equal(got, want) {
				t.Errorf("Blocks behind %v is %v, want %v", l, got, want)
			}
			walkPends(t, s, j, l)
		}
	}
	for why := Fine; why <= Silent; why++ {
		if counts[why] < 100 {
			t.Errorf("reason %d came %d times alone", why, counts[why])
		}
	}
}

// walkPends asks a judge for each client's operation.
func walkPends(t *testing.T, s api.Shape, j *Judge, l history) {
	t.Helper()
	for c := range s.Clients {
		want, ok := api.Op{}, false
		if i := begun(l, c); i >= 0 {
			want, ok = l[i].Op, true
		}
		if got, there := j.Pending(c); got != want || there != ok {
			t.Errorf("Pending(%d) behind %v is %v, %v", c, l, got, there)
		}
	}
}

// rare picks one of some events, rather one by which something is done, for a walk is to go far.
func rare(r *rand.Rand, l history) api.Event {
	if r.Intn(4) > 0 {
		for _, kind := range []int{api.Took, api.Gave, api.Invoked, api.Started} {
			for _, i := range r.Perm(len(l)) {
				if l[i].Kind == kind && r.Intn(3) > 0 {
					return l[i]
				}
			}
		}
	}
	return l[r.Intn(len(l))]
}

// candidates is events that could come next, and such as could not.
func candidates(r *rand.Rand, s api.Shape, l history) history {
	pick := func(l ...int) int { return l[r.Intn(len(l))] }
	places := []int{-4, 0, 4, 8, 32, 64, 128, 192}
	for _, b := range blocks(l) {
		places = append(places, b.At, b.At, b.At+b.N)
	}
	next := history{}
	for c := -1; c <= s.Clients; c++ {
		for range 3 {
			n := pick(-1, 0, 1, 4, 5, 16, 20, 33, 64, 65, 128, most, most+1)
			next = append(next, invoked(c, r.Intn(6), pick(places...), n), started(c), gave(c, pick(places...)))
			op := api.Op{A: pick(places...), N: n}
			if i := begun(l, c); i >= 0 {
				op = l[i].Op
			}
			length, _ := plan.Length(op.N)
			next = append(next, took(c, pick(places...), length), took(c, pick(places...), pick(0, 4, 8, 64)), gave(c, op.A))
			next = append(next, answered(c, api.Errno(r.Intn(10)), 0), answered(c, api.OK, pick(places...)), answered(c, api.ErrArg, pick(0, 0, 4)))
			for _, e := range l {
				if e.Kind == api.Took && e.Client == c && r.Intn(2) == 0 {
					next = append(next, answered(c, api.OK, e.At))
				}
			}
		}
		if r.Intn(6) == 0 {
			next = append(next, killed(c), api.Event{Kind: r.Intn(9) - 1, Client: c})
		}
	}
	return next
}

// begun is at which event of a history the operation was invoked that a client has behind it; -1, if it has none.
func begun(l history, c int) int {
	at := -1
	for i, e := range l {
		switch {
		case e.Client != c:
		case e.Kind == api.Invoked:
			at = i
		case e.Kind == api.Answered || e.Kind == api.Killed:
			at = -1
		}
	}
	return at
}

// happened tells how often a client had an event of that kind.
func happened(l history, c, kind int) int {
	n := 0
	for _, e := range l {
		if e.Client == c && e.Kind == kind {
			n++
		}
	}
	return n
}

// blocks is what is in blocks behind a history that is well, by rising places.
func blocks(l history) []model.Block {
	begins := map[int]int{}
	for _, e := range l {
		if e.Kind == api.Took {
			begins[e.At] = e.N
		} else if e.Kind == api.Gave {
			delete(begins, e.At)
		}
	}
	var list []model.Block
	for at, n := range begins {
		list = append(list, model.Block{At: at, N: n})
	}
	slices.SortFunc(list, func(a, b model.Block) int { return a.At - b.At })
	return list
}

// begins asks whether a block begins there behind a history.
func begins(l history, at int) bool {
	return slices.ContainsFunc(blocks(l), func(b model.Block) bool { return b.At == at })
}

// judged tells why an event behind a history that is well is not so, sentence by sentence.
func judged(s api.Shape, l history, e api.Event) int {
	lives := happened(l, e.Client, api.Started) > happened(l, e.Client, api.Killed)
	at := begun(l, e.Client)
	if e.Client < 0 || e.Client >= s.Clients {
		return Order
	}
	switch e.Kind {
	case api.Started:
		return either(happened(l, e.Client, api.Started) == 0, Order)
	case api.Invoked:
		return either(lives && at < 0 && slices.Contains([]int{api.Malloc, api.Free, api.Realloc, api.Adopt}, e.Op.Kind), Order)
	case api.Killed:
		if !lives {
			return Order
		}
		return either(at < 0 || happened(l[at:], e.Client, api.Took) == 0, Silent)
	case api.Took, api.Gave, api.Answered:
		if at < 0 {
			return Order
		}
		return judgedOn(s, l, e, at)
	}
	return Order
}

// either is Fine or a reason.
func either(well bool, why int) int {
	if well {
		return Fine
	}
	return why
}

// judgedOn tells why an event of an operation, that was invoked at event at of a history, is not so.
func judgedOn(s api.Shape, l history, e api.Event, at int) int {
	op := l[at].Op
	takes, gives := happened(l[at:], e.Client, api.Took), happened(l[at:], e.Client, api.Gave)
	length, _ := plan.Length(op.N)
	switch e.Kind {
	case api.Took:
		may := op.Kind == api.Malloc || op.Kind == api.Realloc && gives == 1
		if !may || takes > 0 || length == 0 || e.N != length {
			return Silent
		}
		clear := e.At >= 0 && e.At+e.N <= s.Pages*api.PageWords
		for _, b := range blocks(l) {
			clear = clear && (b.At+b.N <= e.At || e.At+e.N <= b.At)
		}
		return either(clear, Overlap)
	case api.Gave:
		may := op.Kind == api.Free || op.Kind == api.Realloc && takes == 0
		if !may || gives > 0 || e.At != op.A {
			return Silent
		}
		return either(begins(l, e.At), Double)
	}
	if e.Err != api.OK {
		return either(takes == 0 && gives == 0 && e.At == 0 && mayEnd(l, at, op, e.Err), Answer)
	}
	return either(endsWell(l[at:], e, op, takes, gives), Answer)
}

// endsWell tells whether an operation may be answered with OK.
func endsWell(l history, e api.Event, op api.Op, takes, gives int) bool {
	switch op.Kind {
	case api.Adopt:
		return e.At == 0
	case api.Free:
		return e.At == 0 && gives == 1
	}
	i := slices.IndexFunc(l, func(o api.Event) bool { return o.Client == e.Client && o.Kind == api.Took })
	return takes == 1 && l[i].At == e.At
}

// mayEnd tells whether an operation that did nothing may be answered with that error.
func mayEnd(l history, at int, op api.Op, err api.Errno) bool {
	missed := false
	for i := at; i < len(l); i++ {
		missed = missed || !begins(l[:i+1], op.A)
	}
	out := op.N < 1 || op.N > most
	return slices.Contains(map[string][]bool{
		fmt.Sprint(api.Malloc, int(api.ErrArg)):       {out},
		fmt.Sprint(api.Malloc, int(api.ErrNoMemory)):  {true},
		fmt.Sprint(api.Free, int(api.ErrArg)):         {missed},
		fmt.Sprint(api.Realloc, int(api.ErrArg)):      {missed, out},
		fmt.Sprint(api.Realloc, int(api.ErrNoMemory)): {true},
		fmt.Sprint(api.Adopt, int(api.ErrArg)):        {true},
		fmt.Sprint(api.Adopt, int(api.ErrBusy)):       {true},
		fmt.Sprint(api.Adopt, int(api.ErrState)):      {true},
	}[fmt.Sprint(op.Kind, int(err))], true)
}
