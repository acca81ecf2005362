package cache

import (
	"math"
	"math/rand"
	"slices"
	"testing"

	"vigil/api"
	"vigil/claims"
	"vigil/mac"
	"vigil/window"
)

// P15.3: full, a book refuses who is new, and drops nobody.

func TestAFullBookRefusesWhoIsNew(t *testing.T) {
	for known := range 17 {
		b := with(t, fillers(0, known-1), fillers(known, 15), 40)
		for range 3 {
			for _, c := range append(right(), fillers(16, 60)...) {
				wants(t, b, api.ErrFull, c, 41)
				puts(t, b, api.ErrNone, c, mac.New(some(9)))
				hasNoKey(t, b, api.ErrNone, c)
			}
		}
		still(t, b, fillers(0, known-1), fillers(known, 15), 40)
	}
}

func TestAFullBookTakesOneBehindADrop(t *testing.T) {
	for known := range 17 {
		for n := range 16 {
			b := with(t, fillers(0, known-1), fillers(known, 15), 40)
			wants(t, b, api.ErrFull, filler(16), 50)
			drops(t, b, 1, filler(n), filler(20), filler(n))
			wants(t, b, api.OK, filler(16), 50)
			wants(t, b, api.ErrFull, filler(n), 50)
			wants(t, b, api.ErrFull, filler(17), 50)
			gone := fillers(n, n)
			has(t, b, without(fillers(0, known-1), gone), append(without(fillers(known, 15), gone), filler(16)))
			puts(t, b, api.OK, filler(16), mac.New(some(16)))
			hasKey(t, b, filler(16), some(16))
			wants(t, b, api.ErrFull, filler(n), 50)
		}
	}
}

func TestAFullBookTakesSixteenBehindOnly(t *testing.T) {
	b := with(t, fillers(0, 7), fillers(8, 15), 40)
	leaves(t, b, fillers(0, 15))
	for _, c := range fillers(16, 31) {
		wants(t, b, api.OK, c, 50)
	}
	wants(t, b, api.ErrFull, filler(0), 50)
	has(t, b, nil, fillers(16, 31))
	leaves(t, b, fillers(17, 31), filler(16))
	wants(t, b, api.OK, filler(0), 50)
	has(t, b, nil, []claims.Claims{filler(0), filler(16)})
}

// P15.3: a key is only ever put for who was asked for.

func TestNoKeyIsPutForWhoWasNotAskedFor(t *testing.T) {
	b, c, key := New(), filler(0), mac.New(some(9))
	refused := func() {
		t.Helper()
		puts(t, b, api.ErrNone, c, key)
		hasNoKey(t, b, api.ErrNone, c)
		has(t, b, nil, nil)
	}
	refused()
	wants(t, b, api.OK, c, 5)
	drops(t, b, 1, c)
	refused()
	wants(t, b, api.OK, c, 5)
	puts(t, b, api.OK, c, key)
	drops(t, b, 1, c)
	refused()
	wants(t, b, api.OK, c, 5)
	leaves(t, b, fillers(0, 0))
	refused()
	wants(t, b, api.OK, c, 5)
	puts(t, b, api.OK, c, key)
	leaves(t, b, fillers(0, 0), filler(1))
	refused()
	wants(t, b, api.ErrRange, claims.Claims{}, 5)
	puts(t, b, api.ErrNone, claims.Claims{}, key)
	wants(t, b, api.OK, filler(1), 5)
	puts(t, b, api.ErrNone, c, key)
	has(t, b, nil, fillers(1, 1))
}

// Each wish has one key: who has it is asked for no more.
func TestAWishHasOneKey(t *testing.T) {
	b, c := New(), filler(0)
	wants(t, b, api.OK, c, 5)
	puts(t, b, api.OK, c, mac.New(some(1)))
	for _, key := range keyBytes() {
		puts(t, b, api.ErrNone, c, mac.New(key))
		hasKey(t, b, c, some(1))
	}
}

// P15.3: a nil book, whatever it is handed.

func TestNilBook(t *testing.T) {
	var b *Book
	for _, c := range slices.Concat(right(), wrong(), fillers(0, 20)) {
		for _, tick := range []int{0, 5, 1 << 30, -1, math.MinInt, math.MaxInt} {
			wants(t, b, api.ErrState, c, tick)
			dues(t, b, tick)
		}
		puts(t, b, api.ErrState, c, nil)
		puts(t, b, api.ErrState, c, mac.New(some(9)))
		hasNoKey(t, b, api.ErrState, c)
		drops(t, b, 0, c, c)
		leaves(t, b, nil, c)
	}
	drops(t, b, 0)
	leaves(t, b, nil)
	has(t, b, nil, nil)
	if b.Due(5) != nil || b.Only() != nil || b.Known() != nil || b.Wanted() != nil {
		t.Error("nothing is told by a list")
	}
}

// The zero Book, which New needn't have answered, has no entries.
func TestZeroBook(t *testing.T) {
	b := &Book{}
	has(t, b, nil, nil)
	hasNoKey(t, b, api.ErrNone, filler(0))
	puts(t, b, api.ErrNone, filler(0), mac.New(nil))
	drops(t, b, 0, filler(0))
	leaves(t, b, nil, filler(0))
	dues(t, b, 5)
	for _, c := range fillers(0, 15) {
		wants(t, b, api.OK, c, 40)
	}
	wants(t, b, api.ErrFull, filler(16), 40)
	still(t, b, nil, fillers(0, 15), 40)
}

// Two books go their own ways.
func TestTwoBooks(t *testing.T) {
	one, two := with(t, fillers(0, 1), fillers(2, 3), 40), with(t, fillers(0, 1), fillers(2, 3), 40)
	takes(t, one, api.OK, filler(0), 9, 9)
	drops(t, one, 2, filler(1), filler(2))
	wants(t, one, api.OK, filler(4), 40)
	puts(t, one, api.OK, filler(3), mac.New(some(9)))
	one.Due(60)
	still(t, two, fillers(0, 1), fillers(2, 3), 40)
}

// P15.3: over many calls in a row a book is as a plain list of entries would be.

// line is what is kept of one in the list: since when it is wanted, or its key, and all
// nonces that were taken of it.
type line struct {
	c     claims.Claims
	known bool
	asked int
	key   []byte
	taken []window.Nonce
}

type list struct{ lines []line }

func (o *list) at(c claims.Claims) int {
	return slices.IndexFunc(o.lines, func(x line) bool { return x.c == c })
}

func (o *list) want(c claims.Claims, tick int) api.Errno {
	switch {
	case c.Id < 1 || c.Id > 65535 || c.Serial < 1 || c.Serial > 65535 || c.Roles < 0 || c.Roles > 255 || c.Expiry < 0 || c.Expiry > 1<<30:
		return api.ErrRange
	case o.at(c) >= 0:
		return api.ErrTwice
	case len(o.lines) == 16:
		return api.ErrFull
	}
	o.lines = append(o.lines, line{c: c, asked: tick})
	return api.OK
}

func (o *list) put(c claims.Claims, key []byte) api.Errno {
	i := o.at(c)
	if i < 0 || o.lines[i].known {
		return api.ErrNone
	}
	o.lines[i] = line{c: c, known: true, key: key}
	return api.OK
}

// find is the place of who is known, and why there is none.
func (o *list) find(c claims.Claims) (int, api.Errno) {
	i := o.at(c)
	switch {
	case i < 0:
		return 0, api.ErrNone
	case !o.lines[i].known:
		return 0, api.ErrState
	}
	return i, api.OK
}

// look is by all that was taken, of which nothing is ever forgotten.
func (o *list) look(c claims.Claims, n window.Nonce) api.Errno {
	i, e := o.find(c)
	if e != api.OK {
		return e
	}
	if n.Boot < 1 || n.Boot > 65535 || n.Counter < 1 || n.Counter > 1<<31-1 {
		return api.ErrRange
	}
	for _, x := range o.lines[i].taken {
		if n.Boot < x.Boot || n.Boot == x.Boot && n.Counter <= x.Counter-64 {
			return api.ErrOld
		}
	}
	if slices.Contains(o.lines[i].taken, n) {
		return api.ErrTwice
	}
	return api.OK
}

func (o *list) take(c claims.Claims, n window.Nonce) api.Errno {
	e := o.look(c, n)
	if e == api.OK {
		i := o.at(c)
		o.lines[i].taken = append(o.lines[i].taken, n)
	}
	return e
}

// keep is whose lines are struck out, those that aren't kept, in order.
func (o *list) keep(kept func(line) bool) []claims.Claims {
	var gone []claims.Claims
	for _, x := range o.lines {
		if !kept(x) {
			gone = append(gone, x.c)
		}
	}
	o.lines = slices.DeleteFunc(o.lines, func(x line) bool { return !kept(x) })
	slices.SortFunc(gone, claims.Compare)
	return gone
}

func (o *list) due(tick int) []claims.Claims {
	var l []claims.Claims
	for i, x := range o.lines {
		if !x.known && x.asked <= tick-8 {
			l = append(l, x.c)
			o.lines[i].asked = tick
		}
	}
	slices.SortFunc(l, claims.Compare)
	return l
}

func (o *list) who(known bool) []claims.Claims {
	var l []claims.Claims
	for _, x := range o.lines {
		if x.known == known {
			l = append(l, x.c)
		}
	}
	slices.SortFunc(l, claims.Compare)
	return l
}

// same fails unless the book is as the list, as far as all of these people go.
func same(t *testing.T, b *Book, o *list, people []claims.Claims) {
	t.Helper()
	has(t, b, o.who(true), o.who(false))
	for _, c := range people {
		i, e := o.find(c)
		if e != api.OK {
			hasNoKey(t, b, e, c)
			continue
		}
		hasKey(t, b, c, o.lines[i].key)
		for _, n := range append(o.lines[i].taken, window.Nonce{Boot: 1, Counter: 30}, window.Nonce{Boot: 3, Counter: 200}, window.Nonce{}) {
			looks(t, b, o.look(c, n), c, n.Boot, n.Counter)
		}
	}
}

// step has both called the same, by three numbers, and fails unless they answer the same.
func step(t *testing.T, b *Book, o *list, people []claims.Claims, kind, x, y int) api.Errno {
	t.Helper()
	c, d := people[x%len(people)], people[y%len(people)]
	n := window.Nonce{Boot: 1 + y/128, Counter: y % 32 * (1 + x%5)}
	e := api.OK
	switch kind % 8 {
	case 0, 1:
		e = o.want(c, y)
		wants(t, b, e, c, y)
	case 2, 3:
		e = o.put(c, some(y%40))
		puts(t, b, e, c, mac.New(some(y%40)))
	case 4, 5:
		e = o.take(c, n)
		takes(t, b, e, c, n.Boot, n.Counter)
	case 6:
		dues(t, b, y, o.due(y)...)
	case 7:
		l := []claims.Claims{c, d, c}
		if x%4 > 0 {
			drops(t, b, len(o.keep(func(x line) bool { return !slices.Contains(l, x.c) })), l...)
			break
		}
		for i := range 12 {
			l = append(l, people[(x+i*(y+1))%len(people)])
		}
		leaves(t, b, o.keep(func(x line) bool { return slices.Contains(l, x.c) }), l...)
	}
	return e
}

// crowd is more claims than there is room for, of which some aren't right.
func crowd() []claims.Claims {
	return slices.Concat(inOrder()[2:12], fillers(0, 12), wrong()[:2])
}

// asked is a kind of call, and what it answered.
type asked struct {
	kind int
	e    api.Errno
}

// Rows of calls by a fixed row of draws, so that each run has the same ones: fewer of
// them drop somebody than want somebody, so that the book is full at times.
func TestLongRows(t *testing.T) {
	people := crowd()
	for seed := range 20 {
		draws := rand.New(rand.NewSource(int64(seed + 155)))
		b, o := New(), &list{}
		seen := map[asked]int{}
		for i := range 3000 {
			kind := []int{0, 0, 0, 2, 2, 4, 4, 4, 4, 4, 4, 6}[draws.Intn(12)]
			if draws.Intn(50) == 0 {
				kind = 7
			}
			x := asked{kind, step(t, b, o, people, kind, draws.Intn(120), i/8+draws.Intn(40))}
			seen[x]++
			if i%20 == 0 {
				same(t, b, o, people)
			}
		}
		same(t, b, o, people)
		for _, x := range []asked{
			{0, api.OK}, {0, api.ErrRange}, {0, api.ErrTwice}, {0, api.ErrFull}, {2, api.OK}, {2, api.ErrNone}, {6, api.OK}, {7, api.OK},
			{4, api.OK}, {4, api.ErrNone}, {4, api.ErrState}, {4, api.ErrOld}, {4, api.ErrTwice}, {4, api.ErrRange},
		} {
			if seen[x] < 5 {
				t.Errorf("row %d tells little of %v: %v", seed, x, seen)
			}
		}
	}
}

// P1 and P2: every call ends, none panics, and the same calls answer the same.

func story(b *Book, c claims.Claims, tick, boot, counter int, key []byte) []any {
	n := window.Nonce{Boot: boot, Counter: counter}
	out := []any{b.Want(c, tick), b.Put(filler(tick&15), mac.New(key)), b.Put(c, nil), b.Look(c, n), b.Take(c, n), b.Len()}
	k, e := b.Key(c)
	out = append(out, string(k.Bytes()), e, b.Want(filler(tick&15), tick), b.Drop(filler(tick&7), c))
	for _, l := range [][]claims.Claims{b.Due(tick), b.Known(), b.Wanted(), b.Only(fillers(0, 12)...)} {
		out = append(out, len(l))
		for _, c := range l {
			out = append(out, c)
		}
	}
	return out
}

func TestTheSameCallsAnswerTheSame(t *testing.T) {
	one, two := New(), New()
	for _, c := range slices.Concat(right(), wrong(), fillers(0, 30)) {
		for _, tick := range []int{math.MinInt, -1, 0, 5, 13, 1 << 30, math.MaxInt} {
			for _, n := range numbers() {
				key := some(n & 63)
				if !slices.Equal(story(one, c, tick, 7, n, key), story(two, c, tick, 7, n, key)) {
					t.Fatalf("%v at %d, %d", c, tick, n)
				}
			}
		}
	}
}

// A map's order is another one each time: none of it is to be seen.
func TestNoOrderOfAMapIsSeen(t *testing.T) {
	for range 200 {
		b := with(t, fillers(0, 7), fillers(8, 15), 40)
		dues(t, b, 48, fillers(8, 15)...)
		leaves(t, b, slices.Concat(fillers(0, 2), fillers(4, 8), fillers(10, 15)), filler(9), filler(3))
	}
}

func FuzzBook(f *testing.F) {
	f.Add([]byte{0, 7, 5, 2, 7, 9, 4, 7, 30, 6, 0, 13, 7, 7, 7}, 258, 3, 5, 7, 1<<30, 1, 1)
	f.Add([]byte{}, 0, 0, 0, 0, math.MinInt, 0, 0)
	f.Add(some(600), 65536, 256, -1, 65535, math.MaxInt, 65535, 1<<31-1)
	f.Fuzz(func(t *testing.T, calls []byte, id, roles, expiry, serial, tick, boot, counter int) {
		people := crowd()
		b, o := New(), &list{}
		for calls = calls[:min(len(calls), 900)]; len(calls) > 2; calls = calls[3:] {
			step(t, b, o, people, int(calls[0]), int(calls[1]), int(calls[2]))
		}
		same(t, b, o, people)
		c := claims.Claims{Id: id, Roles: roles, Expiry: expiry, Serial: serial}
		tick = max(tick, math.MinInt+8) // below that the list's own sum has no room
		e := o.want(c, tick)
		wants(t, b, e, c, tick)
		dues(t, b, tick, o.due(tick)...)
		e = o.put(c, some(3))
		puts(t, b, e, c, mac.New(some(3)))
		n := window.Nonce{Boot: boot, Counter: counter}
		takes(t, b, o.take(c, n), c, boot, counter)
		same(t, b, o, append(people, c))
	})
}

func BenchmarkTake(b *testing.B) {
	book := New()
	book.Want(filler(0), 5)
	book.Put(filler(0), mac.New(some(32)))
	for i := 0; b.Loop(); i++ {
		book.Take(filler(0), window.Nonce{Boot: 1, Counter: 1 + i&(1<<31-2)})
	}
}
