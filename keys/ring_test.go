package keys

import (
	"bytes"
	"fmt"
	"math"
	"math/rand"
	"reflect"
	"slices"
	"testing"

	"vigil/api"
	"vigil/claims"
	"vigil/mac"
	"vigil/token"
)

func ring(t *testing.T, x token.Token) *Ring {
	t.Helper()
	r, e := New(x)
	if r == nil || e != api.OK {
		t.Fatalf("%v, %d", r, e)
	}
	return r
}

// made is a ring of a token of these roles.
func made(t *testing.T, mask int) *Ring {
	t.Helper()
	x, e := token.Make(mac.New(some(16)), claims.Claims{Id: 9, Roles: mask, Expiry: 500, Serial: 9})
	if e != api.OK {
		t.Fatal(e)
	}
	return ring(t, x)
}

// filler is claims that no other list here has.
func filler(n int) claims.Claims {
	return claims.Claims{Id: 1000 + n, Expiry: 9, Serial: 3000 + n*7919%100}
}

// fill adds so many senders' keys.
func fill(t *testing.T, r *Ring, n int) {
	t.Helper()
	for i := range n {
		if e := r.Add(filler(i), mac.New(some(i))); e != api.OK {
			t.Fatal(i, e)
		}
	}
}

// knows tells if the ring's senders aren't these, in this order.
func knows(t *testing.T, r *Ring, want ...claims.Claims) {
	t.Helper()
	if got := r.Known(); !slices.Equal(got, want) {
		t.Errorf("%v, not %v", got, want)
	}
}

// adds tells if Add doesn't answer so.
func adds(t *testing.T, r *Ring, c claims.Claims, k *mac.Key, want api.Errno) {
	t.Helper()
	if e := r.Add(c, k); e != want {
		t.Errorf("%v: %d, not %d", c, e, want)
	}
}

// drops tells if Drop doesn't answer so.
func drops(t *testing.T, r *Ring, want int, l ...claims.Claims) {
	t.Helper()
	if n := r.Drop(l...); n != want {
		t.Errorf("%v: %d, not %d", l, n, want)
	}
}

// learns tells if Learn doesn't answer so.
func learns(t *testing.T, r *Ring, role int, k *mac.Key, want api.Errno) {
	t.Helper()
	if e := r.Learn(role, k); e != want {
		t.Errorf("%d: %d, not %d", role, e, want)
	}
}

// P7.2: New and Own.

func TestNewAndOwn(t *testing.T) {
	for _, c := range append(right(), chance(20)...) {
		for _, secret := range [][32]byte{{}, {31: 1}, [32]byte(rightSecret(some(16), c))} {
			x := token.Token{Claims: c, Secret: secret}
			r := ring(t, x)
			if r.Own() != x || len(r.Known()) != 0 {
				t.Errorf("%v: %v, %v", x, r.Own(), r.Known())
			}
			for _, role := range roles {
				k, e := r.Label(role)
				isNot(t, "label", role, k, e, api.ErrNone)
			}
		}
	}
}

func TestNewOfWrongClaims(t *testing.T) {
	for _, c := range wrong() {
		if r, e := New(token.Token{Claims: c, Secret: [32]byte(some(32))}); r != nil || e != api.ErrRange {
			t.Errorf("%v: %v, %d", c, r, e)
		}
	}
}

// P7.2: To and Seed.

func TestToAndSeed(t *testing.T) {
	for _, secret := range [][32]byte{{}, [32]byte(some(32))} {
		r := ring(t, token.Token{Claims: claims.Claims{Id: 5, Serial: 1}, Secret: secret})
		for _, v := range verifiers {
			k, e := r.To(v)
			is(t, "to", v, k, e, rightSender(secret[:], v))
		}
		for _, v := range noOnes {
			k, e := r.To(v)
			isNot(t, "to", v, k, e, api.ErrRange)
		}
		for _, s := range seeds {
			k, e := r.Seed(s)
			is(t, "seed", s, k, e, rightSeed(secret[:], s))
		}
		for _, s := range noSeeds {
			k, e := r.Seed(s)
			isNot(t, "seed", s, k, e, api.ErrRange)
		}
	}
}

// P7.2: Add and From.

func TestAddAndFrom(t *testing.T) {
	for _, c := range append(right(), chance(5)...) {
		for _, b := range keyBytes() {
			r := made(t, 3)
			k, e := r.From(c)
			isNot(t, "ahead", c.Id, k, e, api.ErrNone)
			adds(t, r, c, mac.New(b), api.OK)
			k, e = r.From(c)
			is(t, "from", c.Id, k, e, b)
			knows(t, r, c)
		}
	}
}

// Claims that differ in one of the four are a sender of their own.
func TestSendersAreTheirClaims(t *testing.T) {
	r := made(t, 3)
	c := claims.Claims{Id: 258, Roles: 3, Expiry: 5, Serial: 7}
	l := []claims.Claims{c, c, c, c, c}
	l[1].Id++
	l[2].Roles++
	l[3].Expiry++
	l[4].Serial++
	for i, c := range l {
		k, e := r.From(c)
		isNot(t, "ahead", i, k, e, api.ErrNone)
		adds(t, r, c, mac.New(some(i)), api.OK)
	}
	for i, c := range l {
		k, e := r.From(c)
		is(t, "from", i, k, e, some(i))
	}
	knows(t, r, l[0], l[2], l[3], l[1], l[4])
}

func TestAddOfWrongClaimsAndOfNoKey(t *testing.T) {
	for _, there := range []int{0, 1, 16} {
		r := made(t, 3)
		fill(t, r, there)
		for _, c := range wrong() {
			adds(t, r, c, mac.New(some(9)), api.ErrRange)
			adds(t, r, c, nil, api.ErrRange)
			k, e := r.From(c)
			isNot(t, "from", c.Id, k, e, api.ErrNone)
		}
		for _, c := range append(right(), filler(0)) {
			adds(t, r, c, nil, api.ErrArg)
		}
		if len(r.Known()) != there {
			t.Error(r.Known())
		}
	}
}

func TestAZeroKeyIsAdded(t *testing.T) {
	r, c := made(t, 3), claims.Claims{Id: 1, Serial: 1}
	adds(t, r, c, &mac.Key{}, api.OK)
	k, e := r.From(c)
	is(t, "from", 1, k, e, nil)
	adds(t, r, c, mac.New(some(9)), api.ErrTwice)
}

// Claims that are there keep their key, also where the ring is full.
func TestAddTwice(t *testing.T) {
	for _, n := range []int{1, 15, 16} {
		r := made(t, 3)
		fill(t, r, n)
		for i := range n {
			adds(t, r, filler(i), mac.New(some(50)), api.ErrTwice)
			adds(t, r, filler(i), mac.New(some(i)), api.ErrTwice)
			k, e := r.From(filler(i))
			is(t, "from", i, k, e, some(i))
		}
		if len(r.Known()) != n {
			t.Error(r.Known())
		}
	}
}

// The 17th is refused, and nobody is put out for it.
func TestAddOfThe17th(t *testing.T) {
	r := made(t, 3)
	fill(t, r, 16)
	for _, c := range append(right(), filler(16), filler(17)) {
		adds(t, r, c, mac.New(some(9)), api.ErrFull)
		k, e := r.From(c)
		isNot(t, "from", c.Id, k, e, api.ErrNone)
	}
	for i := range 16 {
		k, e := r.From(filler(i))
		is(t, "from", i, k, e, some(i))
	}
	drops(t, r, 1, filler(3))
	adds(t, r, filler(16), mac.New(some(16)), api.OK)
	adds(t, r, filler(3), mac.New(some(3)), api.ErrFull)
	k, e := r.From(filler(16))
	is(t, "from", 16, k, e, some(16))
}

// The member's own claims are claims as any others.
func TestAddOfItsOwn(t *testing.T) {
	r := made(t, 3)
	adds(t, r, r.Own().Claims, mac.New(some(9)), api.OK)
	knows(t, r, r.Own().Claims)
}

// P7.2: Drop.

func TestDrop(t *testing.T) {
	a, b, c := filler(0), filler(1), filler(2)
	other := claims.Claims{Id: 1, Serial: 1}
	for _, of := range []struct {
		l    []claims.Claims
		want int
	}{
		{nil, 0}, {[]claims.Claims{}, 0}, {[]claims.Claims{a}, 1}, {[]claims.Claims{c, a}, 2}, {[]claims.Claims{a, b, c}, 3},
		{[]claims.Claims{a, a}, 1}, {[]claims.Claims{a, b, a, b, b}, 2}, {[]claims.Claims{other}, 0}, {[]claims.Claims{other, other}, 0},
		{[]claims.Claims{other, b, other, c, {}}, 2}, {wrong(), 0}, {append(wrong(), c), 1},
	} {
		r := made(t, 3)
		fill(t, r, 3)
		drops(t, r, of.want, of.l...)
		drops(t, r, 0, of.l...)
		for i, c := range []claims.Claims{a, b, c} {
			k, e := r.From(c)
			if slices.Contains(of.l, c) {
				isNot(t, "dropped", i, k, e, api.ErrNone)
			} else {
				is(t, "kept", i, k, e, some(i))
			}
		}
		if len(r.Known()) != 3-of.want {
			t.Error(of.l, r.Known())
		}
	}
}

func TestDropOfAllAndOfNobody(t *testing.T) {
	r := made(t, 3)
	drops(t, r, 0, append(right(), filler(0))...)
	fill(t, r, 16)
	all := r.Known()
	drops(t, r, 16, append(slices.Clone(all), all...)...)
	knows(t, r)
	fill(t, r, 16)
	knows(t, r, all...)
}

func TestAddBehindDrop(t *testing.T) {
	r := made(t, 3)
	fill(t, r, 16)
	drops(t, r, 1, filler(5), filler(5))
	adds(t, r, filler(5), mac.New(some(60)), api.OK)
	k, e := r.From(filler(5))
	is(t, "from", 5, k, e, some(60))
	adds(t, r, filler(16), mac.New(some(9)), api.ErrFull)
}

// Dropping senders leaves the roles' keys.
func TestDropLeavesLabels(t *testing.T) {
	r := made(t, 1)
	fill(t, r, 2)
	learns(t, r, 0, mac.New(some(9)), api.OK)
	drops(t, r, 2, filler(0), filler(1), r.Own().Claims)
	k, e := r.Label(0)
	is(t, "label", 0, k, e, some(9))
}

// P7.2: Known.

func TestKnownIsInOrder(t *testing.T) {
	knows(t, made(t, 3))
	one := made(t, 3)
	fill(t, one, 1)
	knows(t, one, filler(0))
	// By serial, then identity, then expiry, then mask.
	sorted := []claims.Claims{
		{Id: 65535, Roles: 255, Expiry: 1 << 30, Serial: 1},
		{Id: 1, Roles: 0, Expiry: 0, Serial: 2},
		{Id: 1, Roles: 1, Expiry: 0, Serial: 2},
		{Id: 1, Roles: 255, Expiry: 0, Serial: 2},
		{Id: 1, Roles: 0, Expiry: 1, Serial: 2},
		{Id: 1, Roles: 0, Expiry: 256, Serial: 2},
		{Id: 2, Roles: 9, Expiry: 0, Serial: 2},
		{Id: 256, Roles: 2, Expiry: 7, Serial: 2},
		{Id: 256, Roles: 3, Expiry: 7, Serial: 2},
		{Id: 9, Roles: 3, Expiry: 7, Serial: 255},
		{Id: 8, Roles: 3, Expiry: 7, Serial: 256},
		{Id: 8, Roles: 2, Expiry: 8, Serial: 256},
		{Id: 7, Roles: 3, Expiry: 7, Serial: 257},
		{Id: 1, Roles: 0, Expiry: 0, Serial: 65535},
		{Id: 65535, Roles: 0, Expiry: 0, Serial: 65535},
		{Id: 65535, Roles: 1, Expiry: 0, Serial: 65535},
	}
	draws := rand.New(rand.NewSource(72))
	for range 50 {
		r := made(t, 3)
		for _, i := range draws.Perm(len(sorted)) {
			adds(t, r, sorted[i], mac.New(some(i)), api.OK)
		}
		knows(t, r, sorted...)
		drops(t, r, 2, sorted[0], sorted[7])
		knows(t, r, slices.Concat(sorted[1:7], sorted[8:])...)
	}
}

// P7.3: Learn and Label.

func TestLearnAndLabel(t *testing.T) {
	for mask := range 256 {
		r := made(t, mask)
		for _, role := range roles {
			has := mask>>role&1 == 1
			if !has {
				learns(t, r, role, mac.New(some(role)), api.ErrRole)
				k, e := r.Label(role)
				isNot(t, "label", role, k, e, api.ErrNone)
				continue
			}
			k, e := r.Label(role)
			isNot(t, "ahead", role, k, e, api.ErrNone)
			learns(t, r, role, mac.New(some(role)), api.OK)
		}
		for _, role := range claims.Roles(mask) {
			k, e := r.Label(role)
			is(t, "label", role, k, e, some(role))
		}
	}
}

// The range is told first, then that there is no key, then the role.
func TestLearnOfWrongOnes(t *testing.T) {
	for _, mask := range []int{0, 3, 127, 255} {
		r := made(t, mask)
		for _, role := range noRoles {
			learns(t, r, role, mac.New(some(9)), api.ErrRange)
			learns(t, r, role, nil, api.ErrRange)
			k, e := r.Label(role)
			isNot(t, "label", role, k, e, api.ErrRange)
		}
		for _, role := range roles {
			learns(t, r, role, nil, api.ErrArg)
			k, e := r.Label(role)
			isNot(t, "label", role, k, e, api.ErrNone)
		}
	}
}

// The later key counts; one that is refused leaves the earlier one.
func TestLearnAgain(t *testing.T) {
	r := made(t, 129)
	for i, b := range keyBytes() {
		learns(t, r, 7, mac.New(b), api.OK)
		learns(t, r, 7, nil, api.ErrArg)
		learns(t, r, 6, mac.New(some(3)), api.ErrRole)
		learns(t, r, 8, mac.New(some(3)), api.ErrRange)
		k, e := r.Label(7)
		is(t, "label", i, k, e, b)
		k, e = r.Label(0)
		isNot(t, "another role", i, k, e, api.ErrNone)
	}
}

func TestAZeroKeyIsLearnt(t *testing.T) {
	r := made(t, 1)
	learns(t, r, 0, &mac.Key{}, api.OK)
	k, e := r.Label(0)
	is(t, "label", 0, k, e, nil)
}

// P7.4: a nil ring.

func TestNilRing(t *testing.T) {
	var r *Ring
	for _, n := range slices.Concat(verifiers, noOnes, noSeeds, noRoles, roles) {
		k, e := r.To(n)
		isNot(t, "to", n, k, e, api.ErrState)
		k, e = r.Seed(n)
		isNot(t, "seed", n, k, e, api.ErrState)
		k, e = r.Label(n)
		isNot(t, "label", n, k, e, api.ErrState)
		learns(t, r, n, nil, api.ErrState)
		learns(t, r, n, mac.New(some(9)), api.ErrState)
	}
	for _, c := range append(right(), wrong()...) {
		adds(t, r, c, nil, api.ErrState)
		adds(t, r, c, mac.New(some(9)), api.ErrState)
		drops(t, r, 0, c, c)
		k, e := r.From(c)
		isNot(t, "from", c.Id, k, e, api.ErrState)
	}
	drops(t, r, 0)
	if r.Own() != (token.Token{}) || r.Known() != nil {
		t.Error(r.Own(), r.Known())
	}
}

// A method beside the chapter's, as one that the token's would be, a nil ring had no
// answer to.
func TestARingHasTheChaptersMethods(t *testing.T) {
	want := []string{"Add", "Drop", "From", "Known", "Label", "Learn", "Own", "Seed", "To"}
	var got []string
	for m := range reflect.TypeFor[*Ring]().Methods() {
		got = append(got, m.Name)
	}
	if !slices.Equal(got, want) {
		t.Error(got)
	}
}

// The zero Ring, which New never answers, is that of the zero token.
func TestZeroRing(t *testing.T) {
	r := &Ring{}
	knows(t, r)
	drops(t, r, 0, filler(0))
	k, e := r.From(filler(0))
	isNot(t, "from", 0, k, e, api.ErrNone)
	k, e = r.Label(0)
	isNot(t, "label", 0, k, e, api.ErrNone)
	learns(t, r, 0, mac.New(some(9)), api.ErrRole)
	k, e = r.To(9)
	is(t, "to", 9, k, e, rightSender(make([]byte, 32), 9))
	k, e = r.Seed(3)
	is(t, "seed", 3, k, e, rightSeed(make([]byte, 32), 3))
	fill(t, r, 16)
	adds(t, r, filler(16), mac.New(some(9)), api.ErrFull)
	if r.Own() != (token.Token{}) {
		t.Error(r.Own())
	}
}

// P7.4: what is handed in or handed out doesn't change a ring.

func TestARingKeepsKeysOfItsOwn(t *testing.T) {
	r, c := made(t, 1), filler(0)
	in := mac.New(some(20))
	adds(t, r, c, in, api.OK)
	learns(t, r, 0, in, api.OK)
	if !bytes.Equal(in.Bytes(), some(20)) {
		t.Error("what was handed in is changed")
	}
	*in = *mac.New(some(9))
	for range 2 {
		for i, ask := range []func() (*mac.Key, api.Errno){
			func() (*mac.Key, api.Errno) { return r.From(c) },
			func() (*mac.Key, api.Errno) { return r.Label(0) },
		} {
			k, e := ask()
			is(t, "asked", i, k, e, some(20))
			scribble(k.Bytes())
			*k = mac.Key{}
		}
	}
}

func TestARingsTokenIsNotShared(t *testing.T) {
	x, _ := token.Make(mac.New(some(16)), claims.Claims{Id: 9, Roles: 3, Expiry: 500, Serial: 9})
	before := x
	r := ring(t, x)
	x.Secret[0] ^= 1
	x.Claims.Roles = 255
	y := r.Own()
	y.Secret[0] ^= 1
	y.Claims.Roles = 255
	to, e := r.To(7)
	is(t, "to", 7, to, e, rightSender(before.Secret[:], 7))
	*to = mac.Key{}
	k, e := r.To(7)
	is(t, "to again", 7, k, e, rightSender(before.Secret[:], 7))
	if r.Own() != before {
		t.Error(r.Own())
	}
	learns(t, r, 2, mac.New(some(9)), api.ErrRole)
}

func TestListsAreNotChangedAndNotShared(t *testing.T) {
	r := made(t, 3)
	fill(t, r, 4)
	first, second := r.Known(), r.Known()
	for i := range first[:cap(first)] {
		first[:cap(first)][i] = claims.Claims{Id: 77}
	}
	knows(t, r, second...)
	in := append(make([]claims.Claims, 0, 9), filler(3), filler(0), filler(3), claims.Claims{})
	before := slices.Clone(in[:cap(in)])
	drops(t, r, 2, in...)
	if !slices.Equal(in[:cap(in)], before) {
		t.Error("what was handed in is changed")
	}
	clear(in)
	if len(r.Known()) != 2 {
		t.Error(r.Known())
	}
}

// Two rings of one token go their own ways.
func TestTwoRings(t *testing.T) {
	one := made(t, 1)
	two := ring(t, one.Own())
	fill(t, one, 3)
	learns(t, one, 0, mac.New(some(9)), api.OK)
	knows(t, two)
	k, e := two.Label(0)
	isNot(t, "label", 0, k, e, api.ErrNone)
	adds(t, two, filler(0), mac.New(some(30)), api.OK)
	drops(t, two, 1, filler(0), filler(1))
	k, e = one.From(filler(0))
	is(t, "from", 0, k, e, some(0))
}

// Many calls in a row, held against a plain list of who was added.

type grant struct {
	c claims.Claims
	b []byte
}

func place(l []grant, c claims.Claims) int {
	return slices.IndexFunc(l, func(g grant) bool { return g.c == c })
}

func wantAdd(l []grant, c claims.Claims) api.Errno {
	switch {
	case place(l, c) >= 0:
		return api.ErrTwice
	case len(l) == 16:
		return api.ErrFull
	}
	return api.OK
}

func TestManyCalls(t *testing.T) {
	draws := rand.New(rand.NewSource(73))
	people := chance(24)
	for range 20 {
		r := made(t, 255)
		var l []grant
		for step := range 400 {
			c := people[draws.Intn(len(people))]
			switch draws.Intn(4) {
			case 0, 1:
				want := wantAdd(l, c)
				adds(t, r, c, mac.New(some(step)), want)
				if want == api.OK {
					l = append(l, grant{c, some(step)})
				}
			case 2:
				other := people[draws.Intn(len(people))]
				had := len(l)
				l = slices.DeleteFunc(l, func(g grant) bool { return g.c == c || g.c == other })
				drops(t, r, had-len(l), c, other, c)
			}
			k, e := r.From(c)
			if at := place(l, c); at >= 0 {
				is(t, "from", step, k, e, l[at].b)
			} else {
				isNot(t, "from", step, k, e, api.ErrNone)
			}
			var who []claims.Claims
			for _, g := range l {
				who = append(who, g.c)
			}
			slices.SortFunc(who, claims.Compare)
			knows(t, r, who...)
		}
	}
}

// P1 and P2, for all calls.

// story is what all calls answer, one behind the other.
func story(k *mac.Key, c claims.Claims, n int) string {
	var out []any
	tell := func(k *mac.Key, e api.Errno) { out = append(out, k == nil, k.Bytes(), e) }
	tell(Sender(k, n))
	tell(Seed(k, n))
	tell(Label(k, n))
	tell(Grant(k, c, n))
	tell(Member(k, c, n))
	other := claims.Claims{Id: 1, Roles: 255, Serial: 1}
	r, e := New(token.Token{Claims: c})
	for _, r := range []*Ring{r, nil, {}} {
		tell(r.To(n))
		tell(r.Seed(n))
		out = append(out, e, r.Own(), r.Add(c, k), r.Add(other, mac.New(nil)), r.Add(c, k), r.Learn(n, k), r.Known())
		tell(r.From(c))
		tell(r.Label(n))
		out = append(out, r.Drop(c, other, c), r.Drop(), r.Known())
		tell(r.From(c))
	}
	return fmt.Sprint(out...)
}

func FuzzKeys(f *testing.F) {
	f.Add(some(16), 258, 3, 5, 7, 9)
	f.Add([]byte{}, 0, 256, -1, 65536, math.MaxInt)
	f.Fuzz(func(t *testing.T, master []byte, id, mask, expiry, serial, n int) {
		k, c := mac.New(master), claims.Claims{Id: id, Roles: mask, Expiry: expiry, Serial: serial}
		if story(k, c, n) != story(k, c, n) {
			t.Error("the same calls answer otherwise")
		}
		told, e := Grant(k, c, n)
		if (e == api.OK) != (claims.Check(c) == api.OK && n >= 1 && n <= 65535) {
			t.Fatalf("%v, %d: %d", c, n, e)
		}
		if e != api.OK {
			return
		}
		is(t, "grant", n, told, e, rightSender(rightSecret(master, c), n))
		x, _ := token.Make(k, c)
		own, e := ring(t, x).To(n)
		is(t, "own", n, own, e, told.Bytes())
	})
}
