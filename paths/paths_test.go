package paths_test

import (
	"bytes"
	"fmt"
	"math"
	"slices"
	"strings"
	"testing"

	"warder/api"
	"warder/certs"
	"warder/chains"
	"warder/crls"
	"warder/crypto"
	"warder/paths"
	"warder/texts"
	"warder/vault"
)

// drawn tells numbers that look drawn, and are the same each time.
func drawn() func(below int) int {
	state := uint64(1)
	return func(below int) int {
		state = state*6364136223846793005 + 1442695040888963407
		return int(state>>33) % below
	}
}

// cn is a name of one part.
func cn(text string) api.Name { return api.Name{{Oid: []int{2, 5, 4, 3}, Text: text}} }

// now is the time of most tests: that of the certificates is from and to.
const (
	from = 100
	now  = 150
	to   = 200
)

// maker is what one has that may make others.
var maker = api.Exts{HasCA: true, CA: true, Path: -1, Usage: api.UseCert}

// office is a vault with keys, and their public halves.
type office struct {
	v    *vault.Vault
	keys []int
	pubs []int
}

func newOffice(t *testing.T, keys int) office {
	t.Helper()
	o := office{v: vault.New()}
	for n := range keys {
		key, e := crypto.Atom(o.v, int64(n))
		pub, f := crypto.Pub(o.v, key)
		if e != api.OK || f != api.OK {
			t.Fatal(e, f)
		}
		o.keys, o.pubs = append(o.keys, key), append(o.pubs, pub)
	}
	return o
}

// fresh is an office with room for more signatures: the same one, or a new one.
func (o office) fresh(t *testing.T) office {
	t.Helper()
	if o.v.Len() < api.MaxHandles-50 {
		return o
	}
	return newOffice(t, len(o.keys))
}

// signed is a certificate's bytes, signed by a key.
func (o office) signed(t *testing.T, c api.Cert, by int) []byte {
	t.Helper()
	body, e := certs.Body(c)
	if e != api.OK {
		t.Fatalf("%s: no body: %v", short(c), e)
	}
	if c.Sig, e = crypto.Sign(o.v, o.keys[by], body); e != api.OK {
		t.Fatalf("%s: not signed: %v", short(c), e)
	}
	b, e := certs.Put(c)
	if e != api.OK {
		t.Fatalf("%s: no bytes: %v", short(c), e)
	}
	return b
}

// cert is a certificate that may make others: of one name and key, by another name and key.
func (o office) cert(t *testing.T, serial int, issuer string, by int, subject string, key int) []byte {
	t.Helper()
	return o.signed(t, api.Cert{Serial: int64(serial), Issuer: cn(issuer), From: from, To: to, Subject: cn(subject), Key: o.pubs[key], Exts: maker}, by)
}

func (o office) anchor(name string, key int) api.Anchor {
	return api.Anchor{Name: cn(name), Key: o.pubs[key]}
}

// takesBack is a list of somebody's that has serials.
func (o office) takesBack(t *testing.T, issuer string, by int, serials ...int64) []byte {
	t.Helper()
	l := api.CRL{Issuer: cn(issuer), This: from, Next: to, Serials: serials}
	body, e := crls.Body(l)
	if e != api.OK {
		t.Fatal(e)
	}
	if l.Sig, e = crypto.Sign(o.v, o.keys[by], body); e != api.OK {
		t.Fatal(e)
	}
	b, e := crls.Put(l)
	if e != api.OK {
		t.Fatal(e)
	}
	return b
}

// step is the name of a line's place.
func step(place int) string { return fmt.Sprint("Place ", place) }

// line is a chain of so many, the first one by the key 0 of the name of place 0: each has its own name and key, and may make others.
func (o office) line(t *testing.T, n int) [][]byte {
	t.Helper()
	var all [][]byte
	for place := range n {
		all = append(all, o.cert(t, place, step(place), place, step(place+1), place+1))
	}
	return all
}

// short is how something is told where it is wrong.
func short(x any) string {
	s := fmt.Sprintf("%+v", x)
	return s[:min(len(s), 300)]
}

func told(chain [][]byte) string {
	var all []string
	for _, b := range chain[:min(len(chain), 40)] {
		c, e := certs.Get(b)
		all = append(all, short(c)+fmt.Sprint(" ", e))
	}
	return strings.Join(all, "\n")
}

// same: has each part of a name that of another one, and as many?
func same(a, b api.Name) bool {
	for i := range a {
		if len(a) != len(b) || !slices.Equal(a[i].Oid, b[i].Oid) || texts.Prep(a[i].Text) != texts.Prep(b[i].Text) {
			return false
		}
	}
	return len(a) == len(b)
}

// alike: are two chains one?
func alike(a, b [][]byte) bool { return slices.EqualFunc(a, b, bytes.Equal) }

// question is what Build is asked.
type question struct {
	v       *vault.Vault
	anchors []api.Anchor
	pool    [][]byte
	leaf    []byte
	now     int64
	lists   [][]byte
}

func (q question) build() ([][]byte, int, api.Errno) {
	return paths.Build(q.v, q.anchors, q.pool, q.leaf, q.now, q.lists)
}

// answer is what the chapter answers, and how many chains were tried for it.
type answer struct {
	chain [][]byte
	at    int
	e     api.Errno
	tried int
}

// asTold is the section Types again, step by step: every anchor is asked of every chain, and all chains wait in one row, those that come first in front.
func (q question) asTold() answer {
	if q.v == nil {
		return answer{at: -1, e: api.ErrArg}
	}
	if len(q.anchors) > 32 || len(q.pool) > 32 || len(q.lists) > 16 {
		return answer{at: -1, e: api.ErrTooMany}
	}
	if _, e := certs.Get(q.leaf); e != api.OK {
		return answer{at: -1, e: e}
	}
	type read struct {
		c  api.Cert
		is bool
	}
	var pool []read
	for _, b := range q.pool {
		c, e := certs.Get(b)
		pool = append(pool, read{c, e == api.OK})
	}
	last, _ := certs.Get(q.leaf)
	tried := 0
	for waiting := [][]int{nil}; len(waiting) > 0 && tried < 500; tried++ {
		places := waiting[0] // of the pool, the first one of the chain in front
		first := last
		if len(places) > 0 {
			first = pool[places[0]].c
		}
		var chain [][]byte
		for _, place := range places {
			chain = append(chain, q.pool[place])
		}
		chain = append(chain, q.leaf)
		for at, a := range q.anchors {
			if !same(a.Name, first.Issuer) {
				continue
			}
			if e, _ := chains.Validate(q.v, a, chain, q.now, q.lists); e == api.OK {
				return answer{chain, at, api.OK, tried + 1}
			}
		}
		var longer [][]int
		for place, p := range pool {
			if p.is && len(chain) < 8 && !slices.Contains(places, place) && same(p.c.Subject, first.Issuer) {
				longer = append(longer, append([]int{place}, places...))
			}
		}
		waiting = append(longer, waiting[1:]...)
	}
	return answer{at: -1, e: api.ErrNoPath, tried: tried}
}

// hold: Build answers as told; what came out is answered.
func (q question) hold(t *testing.T, what string) answer {
	t.Helper()
	chain, at, e := q.build()
	want := q.asTold()
	if e != want.e || at != want.at || !alike(chain, want.chain) {
		t.Errorf("%s: %d at %d, %v, not %d at %d, %v; %d in the pool, for\n%s", what, len(chain), at, e, len(want.chain), want.at, want.e, len(q.pool), told([][]byte{q.leaf}))
	}
	if e != api.OK && (len(chain) > 0 || at != -1) {
		t.Errorf("%s: %d at %d with %v", what, len(chain), at, e)
	}
	return want
}

// finds: Build answers as told, and as expected.
func (q question) finds(t *testing.T, what string, at int, chain ...[]byte) {
	t.Helper()
	q.hold(t, what)
	got, place, e := q.build()
	if e != api.OK || place != at || !alike(got, chain) {
		t.Errorf("%s: %v, at %d\n%s", what, e, place, told(got))
	}
}

// fails: Build answers as told, and that error.
func (q question) fails(t *testing.T, what string, e api.Errno) {
	t.Helper()
	q.hold(t, what)
	if chain, place, got := q.build(); got != e || place != -1 || len(chain) > 0 {
		t.Errorf("%s: %v, at %d, not %v\n%s", what, got, place, e, told(chain))
	}
}

// P15.1: the chapter's examples, and some of DOC.md's words.
func TestExamples(t *testing.T) {
	o := newOffice(t, 4)
	q := question{v: o.v, anchors: []api.Anchor{o.anchor("Root", 0)}, now: now}
	middle := o.cert(t, 1, "Root", 0, "Middle", 1)
	q.leaf = o.cert(t, 2, "Middle", 1, "Ann", 2)
	q.pool = [][]byte{middle}
	q.finds(t, "both", 0, middle, q.leaf)
	q.pool = nil
	q.fails(t, "nothing in the pool", api.ErrNoPath)
	q.leaf = o.cert(t, 3, "Nobody", 3, "Ann", 2)
	q.fails(t, "nobody's", api.ErrNoPath)
	q.pool = [][]byte{middle}
	q.fails(t, "nobody's, and somebody's in the pool", api.ErrNoPath)
	q.leaf, q.anchors = o.cert(t, 2, "Middle", 1, "Ann", 2), nil
	q.fails(t, "nobody is believed", api.ErrNoPath)
}

// P15.1, P2: no vault, too many anchors, too many in the pool, too many lists, a leaf that is none, no way, in that order.
func TestArguments(t *testing.T) {
	o := newOffice(t, 4)
	leaf := o.cert(t, 1, "Root", 0, "Ann", 1)
	anchors := func(n int) []api.Anchor { return slices.Repeat([]api.Anchor{o.anchor("Root", 0)}, n) }
	bytesOf := func(n int) [][]byte { return make([][]byte, n) }
	list := o.takesBack(t, "Root", 0, 7)
	lists := func(n int) [][]byte { return slices.Repeat([][]byte{list}, n) }
	for i, c := range []struct {
		q question
		e api.Errno
	}{
		{question{nil, anchors(1), nil, leaf, now, nil}, api.ErrArg},
		{question{}, api.ErrArg},
		{question{nil, anchors(33), bytesOf(33), nil, now, lists(17)}, api.ErrArg},
		{question{o.v, anchors(33), nil, leaf, now, nil}, api.ErrTooMany},
		{question{o.v, make([]api.Anchor, 33), nil, leaf, now, nil}, api.ErrTooMany},
		{question{o.v, anchors(1), bytesOf(33), leaf, now, nil}, api.ErrTooMany},
		{question{o.v, anchors(1), slices.Repeat([][]byte{leaf}, 33), leaf, now, nil}, api.ErrTooMany},
		{question{o.v, anchors(1), nil, leaf, now, lists(17)}, api.ErrTooMany},
		{question{o.v, anchors(1), nil, leaf, now, bytesOf(17)}, api.ErrTooMany},
		{question{o.v, anchors(33), nil, nil, now, nil}, api.ErrTooMany},
		{question{o.v, nil, bytesOf(33), nil, now, nil}, api.ErrTooMany},
		{question{o.v, nil, nil, nil, now, bytesOf(17)}, api.ErrTooMany},
		{question{o.v, anchors(33), bytesOf(33), []byte{0x30, 0}, now, lists(17)}, api.ErrTooMany},
		{question{o.v, anchors(32), bytesOf(32), leaf, now, lists(16)}, api.OK},
		{question{o.v, anchors(32), slices.Repeat([][]byte{leaf}, 32), leaf, now, bytesOf(16)}, api.OK},
		{question{o.v, make([]api.Anchor, 32), bytesOf(32), leaf, now, lists(16)}, api.ErrNoPath},
		{question{o.v, make([]api.Anchor, 32), bytesOf(32), nil, now, lists(16)}, api.ErrEnd},
		{question{o.v, nil, nil, leaf, now, nil}, api.ErrNoPath},
		{question{o.v, nil, nil, nil, now, nil}, api.ErrEnd},
		{question{vault.New(), anchors(1), nil, nil, now, nil}, api.ErrEnd},
		{question{vault.New(), anchors(1), nil, leaf, now, nil}, api.ErrNoPath},
	} {
		if c.e == api.OK {
			c.q.finds(t, fmt.Sprint("arguments ", i), 0, leaf)
		} else {
			c.q.fails(t, fmt.Sprint("arguments ", i), c.e)
		}
	}
}

// P15.1: each error of certs.Get comes out as it is, of the leaf; in the pool what is none counts as nothing.
func TestErrorsOfBytes(t *testing.T) {
	o := newOffice(t, 4)
	line := o.line(t, 3)
	c, _ := certs.Get(line[2])
	body, _ := certs.Body(c)
	deep := ""
	for range 33 {
		deep = "\x30" + string(rune(len(deep))) + deep
	}
	q := question{v: o.v, anchors: []api.Anchor{o.anchor(step(0), 0)}, now: now}
	for _, c := range []struct {
		b string
		e api.Errno
	}{
		{"", api.ErrEnd}, {"\x1f\x00", api.ErrTag}, {"\x30\x80", api.ErrLength}, {"\x30\x00\x00", api.ErrRest}, {string(line[2]) + "\x00", api.ErrRest}, {"\x31\x06\x02\x01\x05\x02\x01\x04", api.ErrOrder}, {"\x02\x02\x00\x05", api.ErrValue}, {deep, api.ErrDeep},
		{"\x30\x00", api.ErrCert}, {string(body), api.ErrCert}, {string(line[2][:9]), api.ErrEnd}, {string(o.takesBack(t, step(0), 0, 9)), api.ErrCert},
	} {
		q.leaf, q.pool = []byte(c.b), line
		q.fails(t, fmt.Sprintf("%.20x", c.b), c.e)
		q.anchors = nil
		q.fails(t, fmt.Sprintf("%.20x with nobody believed", c.b), c.e)
		q.anchors = []api.Anchor{o.anchor(step(0), 0)}
		q.leaf = line[2]
		for place := range 3 {
			q.pool = slices.Insert(slices.Clone(line[:2]), place, []byte(c.b))
			q.finds(t, fmt.Sprintf("%.20x in the pool at %d", c.b, place), 0, line...)
		}
		q.pool = append(slices.Repeat([][]byte{[]byte(c.b)}, 30), line[0], line[1])
		q.finds(t, fmt.Sprintf("%.20x thirty times in the pool", c.b), 0, line...)
		q.pool = [][]byte{[]byte(c.b), line[0]}
		q.fails(t, fmt.Sprintf("%.20x in place of a certificate", c.b), api.ErrNoPath)
	}
}

// P15.3: a leaf that holds alone is told alone, with the first anchor of its issuer's name below which it does, whatever else there is.
func TestLeafAlone(t *testing.T) {
	o := newOffice(t, 6)
	leaf := o.cert(t, 1, "Root", 0, "Ann", 1)
	cross := o.cert(t, 2, "Other", 2, "Root", 0) // another way to it
	own := o.cert(t, 3, "Root", 0, "Root", 0)
	right := o.anchor("Root", 0)
	spelt := o.anchor("  ROOT ", 0)
	wrongKey, wrongName, other, noKey := o.anchor("Root", 3), o.anchor("Boot", 0), o.anchor("Other", 2), api.Anchor{Name: cn("Root"), Key: o.keys[0]}
	for _, c := range []struct {
		anchors []api.Anchor
		at      int
	}{
		{[]api.Anchor{right}, 0},
		{[]api.Anchor{spelt}, 0},
		{[]api.Anchor{right, right}, 0},
		{[]api.Anchor{right, spelt}, 0},
		{[]api.Anchor{spelt, right}, 0},
		{[]api.Anchor{wrongKey, right}, 1},
		{[]api.Anchor{wrongName, right}, 1},
		{[]api.Anchor{noKey, right}, 1},
		{[]api.Anchor{other, right}, 1},
		{[]api.Anchor{right, other}, 0},
		{[]api.Anchor{{}, wrongKey, wrongName, other, noKey, spelt, right, right}, 5},
		{append(slices.Repeat([]api.Anchor{wrongKey}, 31), right), 31},
	} {
		for _, pool := range [][][]byte{nil, {cross}, {own}, {own, cross}, {cross, own, leaf}, {nil, leaf, leaf}, slices.Repeat([][]byte{own}, 32)} {
			q := question{o.v, c.anchors, pool, leaf, now, nil}
			q.finds(t, fmt.Sprint(len(c.anchors), " anchors, ", len(pool), " in the pool"), c.at, leaf)
		}
	}
	for _, a := range [][]api.Anchor{{wrongKey}, {wrongName}, {noKey}, {wrongKey, wrongName, {}, noKey}} {
		question{o.v, a, [][]byte{cross, own}, leaf, now, nil}.fails(t, "not believed", api.ErrNoPath)
	}
	q := question{o.v, []api.Anchor{wrongKey, other, wrongName}, [][]byte{own, cross}, leaf, now, nil}
	q.finds(t, "believed by another one's word", 1, cross, own, leaf) // its own is the first one of the pool
}

// P15.1, P15.2: chains of each length, from pools in any order.
func TestLengths(t *testing.T) {
	o := newOffice(t, 12)
	for n := 1; n <= 8; n++ {
		line := o.line(t, n)
		q := question{v: o.v, anchors: []api.Anchor{o.anchor(step(0), 0)}, leaf: line[n-1], now: now}
		q.pool = line[:n-1]
		q.finds(t, fmt.Sprint(n, " in order"), 0, line...)
		q.pool = slices.Clone(q.pool)
		slices.Reverse(q.pool)
		q.finds(t, fmt.Sprint(n, " in the other order"), 0, line...)
		q.pool = append(slices.Clone(line), line...)
		q.finds(t, fmt.Sprint(n, " twice"), 0, line...)
		for missing := range n - 1 {
			q.pool = slices.Delete(slices.Clone(line[:n-1]), missing, missing+1)
			q.fails(t, fmt.Sprint(n, " without that at ", missing), api.ErrNoPath)
		}
	}
	for n := 9; n <= 11; n++ {
		line := o.line(t, n)
		q := question{o.v, []api.Anchor{o.anchor(step(0), 0)}, line[:n-1], line[n-1], now, nil}
		q.fails(t, fmt.Sprint(n, " are too many"), api.ErrNoPath)
		q.anchors = append(q.anchors, o.anchor(step(n-8), n-8))
		q.finds(t, fmt.Sprint("eight of ", n), 1, line[n-8:]...)
		around := o.cert(t, 50, step(0), 0, step(n-7), n-7)
		q.pool, q.anchors = append(slices.Clone(q.pool), around), q.anchors[:1]
		q.finds(t, fmt.Sprint("a shorter way than ", n), 0, append([][]byte{around}, line[n-7:]...)...)
	}
}

// P15.1: of five certificates the pool is laid in each order; and in each one with the same way is found.
func TestOrders(t *testing.T) {
	o := newOffice(t, 7)
	line := o.line(t, 6)
	q := question{v: o.v, anchors: []api.Anchor{o.anchor(step(0), 0)}, leaf: line[5], now: now}
	for n := range 5 * 4 * 3 * 2 {
		rest := slices.Clone(line[:5])
		q.pool = nil
		for left := 5; left > 0; left-- {
			q.pool = append(q.pool, rest[n%left])
			rest = slices.Delete(rest, n%left, n%left+1)
			n /= left
		}
		q.finds(t, fmt.Sprint("order ", n), 0, line...)
	}
}

// P15.1: where there are several ways the first one is told: by the anchors' order, then the pool's, and each with all that is ahead of it.
func TestWhichWay(t *testing.T) {
	o := newOffice(t, 8)
	leaf := o.cert(t, 1, "B", 2, "Ann", 3)
	byRoot, byRootToo := o.cert(t, 2, "Root", 0, "B", 2), o.cert(t, 3, "Root", 0, "B", 2)
	byOther := o.cert(t, 4, "Other", 4, "B", 2)
	byA, a := o.cert(t, 5, "A", 1, "B", 2), o.cert(t, 6, "Root", 0, "A", 1)
	root, other := o.anchor("Root", 0), o.anchor("Other", 4)
	for i, c := range []struct {
		anchors []api.Anchor
		pool    [][]byte
		at      int
		chain   [][]byte
	}{
		{[]api.Anchor{root}, [][]byte{byRoot, byRootToo}, 0, [][]byte{byRoot, leaf}},
		{[]api.Anchor{root}, [][]byte{byRootToo, byRoot}, 0, [][]byte{byRootToo, leaf}},
		{[]api.Anchor{root, other}, [][]byte{byRoot, byOther}, 0, [][]byte{byRoot, leaf}},
		{[]api.Anchor{root, other}, [][]byte{byOther, byRoot}, 1, [][]byte{byOther, leaf}}, // the pool's order stands ahead of the anchors'
		{[]api.Anchor{other, root}, [][]byte{byOther, byRoot}, 0, [][]byte{byOther, leaf}},
		{[]api.Anchor{other}, [][]byte{byRoot, byRootToo, byOther}, 0, [][]byte{byOther, leaf}},
		{[]api.Anchor{root}, [][]byte{byA, byRoot, a}, 0, [][]byte{a, byA, leaf}}, // all ways by the first one, ahead of the second
		{[]api.Anchor{root}, [][]byte{a, byA, byRoot}, 0, [][]byte{a, byA, leaf}},
		{[]api.Anchor{root}, [][]byte{byRoot, byA, a}, 0, [][]byte{byRoot, leaf}},
		{[]api.Anchor{root}, [][]byte{byA, byRoot}, 0, [][]byte{byRoot, leaf}},
		{[]api.Anchor{root, o.anchor("A", 1)}, [][]byte{byA, byRoot, a}, 1, [][]byte{byA, leaf}}, // all anchors, ahead of a longer one
		{[]api.Anchor{root, o.anchor("B", 2)}, [][]byte{byA, byRoot, a}, 1, [][]byte{leaf}},
		{[]api.Anchor{o.anchor("A", 5), root, o.anchor("A", 1), o.anchor("A", 1)}, [][]byte{a, byA, byRoot}, 2, [][]byte{byA, leaf}},
		{[]api.Anchor{o.anchor("A", 5), root}, [][]byte{byA, a, byRoot}, 1, [][]byte{a, byA, leaf}},
		{[]api.Anchor{o.anchor("Root", 5), root, root}, [][]byte{byOther, a, byA}, 1, [][]byte{a, byA, leaf}},
	} {
		question{o.v, c.anchors, c.pool, leaf, now, nil}.finds(t, fmt.Sprint("ways ", i), c.at, c.chain...)
	}
}

// P15.1: what is wrong with one way leaves the others.
func TestWaysAround(t *testing.T) {
	o := newOffice(t, 8)
	right := api.Cert{Serial: 1, Issuer: cn("Root"), From: from, To: to, Subject: cn("B"), Key: o.pubs[2], Exts: maker}
	good := o.signed(t, right, 0)
	leaf := o.cert(t, 9, "B", 2, "Ann", 3)
	a := []api.Anchor{o.anchor("Root", 0)}
	for i, change := range []func(c *api.Cert) (by int){
		func(c *api.Cert) int { return 5 },
		func(c *api.Cert) int { c.Key = o.pubs[5]; return 0 },
		func(c *api.Cert) int { c.To = now - 1; return 0 },
		func(c *api.Cert) int { c.From = now + 1; return 0 },
		func(c *api.Cert) int { c.Serial = 7; return 0 }, // taken back
		func(c *api.Cert) int { c.Issuer = cn("Boot"); return 0 },
		func(c *api.Cert) int { c.Subject = cn("C"); return 0 },
		func(c *api.Cert) int { c.Exts.Exclude = []api.Name{cn("Ann")}; return 0 },
		func(c *api.Cert) int { c.Exts.Permit = []api.Name{cn("Bob")}; return 0 },
		func(c *api.Cert) int { c.Exts.Odd = []api.Odd{{Oid: []int{1, 9}, Crit: true}}; return 0 },
		func(c *api.Cert) int { c.Exts = api.Exts{}; return 0 },
		func(c *api.Cert) int { c.Exts.Usage = api.UseSign; return 0 },
	} {
		bad := right
		bad.Serial = 2
		b := o.signed(t, bad, change(&bad))
		b = o.signed(t, bad, change(&bad)) // as changed
		lists := [][]byte{o.takesBack(t, "Root", 0, 7)}
		question{o.v, a, [][]byte{b}, leaf, now, lists}.fails(t, fmt.Sprint("wrong ", i), api.ErrNoPath)
		question{o.v, a, [][]byte{b, good}, leaf, now, lists}.finds(t, fmt.Sprint("around wrong ", i), 0, good, leaf)
		question{o.v, a, append(slices.Repeat([][]byte{b}, 31), good), leaf, now, lists}.finds(t, fmt.Sprint("around 31 of wrong ", i), 0, good, leaf)
	}
	short := right // others may stand between it and the last one, but not so many
	short.Exts.Path = 0
	between := o.cert(t, 3, "B", 2, "B2", 4)
	last := o.cert(t, 4, "B2", 4, "Ann", 3)
	question{o.v, a, [][]byte{o.signed(t, short, 0), between}, last, now, nil}.fails(t, "too many between", api.ErrNoPath)
	question{o.v, a, [][]byte{o.signed(t, short, 0), between, good}, last, now, nil}.finds(t, "around too many between", 0, good, between, last)
	for _, time := range []int64{math.MinInt64, from - 1, to + 1, math.MaxInt64} {
		question{o.v, a, [][]byte{good}, leaf, time, nil}.fails(t, fmt.Sprint("at ", time), api.ErrNoPath)
	}
	for _, time := range []int64{from, from + 1, to} {
		question{o.v, a, [][]byte{good}, leaf, time, nil}.finds(t, fmt.Sprint("at ", time), 0, good, leaf)
	}
}

// P15.1: lists are asked of each certificate of a way, the leaf too; what of them is none counts as nothing.
func TestLists(t *testing.T) {
	o := newOffice(t, 8)
	line := o.line(t, 4)
	q := question{v: o.v, anchors: []api.Anchor{o.anchor(step(0), 0)}, pool: line[:3], leaf: line[3], now: now}
	for place := range 4 {
		list := o.takesBack(t, step(place), place, int64(place))
		for _, lists := range [][][]byte{{list}, {nil, list}, append(slices.Repeat([][]byte{{0x30, 0}}, 15), list)} {
			q.lists = lists
			q.fails(t, fmt.Sprint("taken back at ", place), api.ErrNoPath)
		}
		q.lists = [][]byte{o.takesBack(t, step(place), place, 40, 41), o.takesBack(t, step(place), 7, int64(place)), o.takesBack(t, "Somebody", place, int64(place)), list[:20]}
		q.finds(t, fmt.Sprint("not taken back at ", place), 0, line...)
		if place < 3 { // another one of the same maker
			again := o.cert(t, 60+place, step(place), place, step(place+1), place+1)
			around := slices.Clone(line)
			around[place] = again
			q.pool, q.lists = append(slices.Clone(line[:3]), again), [][]byte{list}
			q.finds(t, fmt.Sprint("around that at ", place), 0, around...)
			q.pool = line[:3]
		}
	}
}

// P15.1: whose name somebody has is told as names.Same does, of anchors and in the pool.
func TestNames(t *testing.T) {
	o := newOffice(t, 4)
	leaf := func(issuer api.Name) []byte {
		return o.signed(t, api.Cert{Serial: 1, Issuer: issuer, From: from, To: to, Subject: cn("Ann"), Key: o.pubs[3]}, 1)
	}
	middle := func(subject api.Name) []byte {
		return o.signed(t, api.Cert{Serial: 2, Issuer: cn("Root"), From: from, To: to, Subject: subject, Key: o.pubs[1], Exts: maker}, 0)
	}
	name := append(cn("Acme"), cn("A  b")...)
	for _, c := range []struct {
		n  api.Name
		is bool
	}{
		{name, true}, {append(cn(" ACME "), cn("a b")...), true}, {append(cn("acme"), cn("A    B ")...), true},
		{nil, false}, {name[:1], false}, {name[1:], false}, {append(cn("A  b"), cn("Acme")...), false}, {append(slices.Clone(name), cn("x")...), false}, {append(cn("Acme"), cn("Ab")...), false},
		{api.Name{{Oid: []int{2, 5, 4, 10}, Text: "Acme"}, name[1]}, false}, {api.Name{name[0], {Oid: []int{2, 5, 4}, Text: "A  b"}}, false},
	} {
		asked := leaf(name)
		below := question{v: o.v, anchors: []api.Anchor{{Name: c.n, Key: o.pubs[1]}}, leaf: asked, now: now}
		behind := question{v: o.v, anchors: []api.Anchor{o.anchor("ROOT", 0)}, pool: [][]byte{middle(c.n)}, leaf: asked, now: now}
		if c.is {
			below.finds(t, fmt.Sprint("below ", c.n), 0, asked)
			behind.finds(t, fmt.Sprint("behind ", c.n), 0, behind.pool[0], asked)
		} else {
			below.fails(t, fmt.Sprint("below ", c.n), api.ErrNoPath)
			behind.fails(t, fmt.Sprint("behind ", c.n), api.ErrNoPath)
		}
	}
	nobody := question{o.v, []api.Anchor{o.anchor("Root", 0)}, [][]byte{middle(nil)}, leaf(nil), now, nil}
	nobody.finds(t, "of no name", 0, nobody.pool[0], nobody.leaf)
	nobody.pool = append(slices.Repeat([][]byte{{0x30, 0}}, 31), nobody.pool...) // what is no certificate has no name, and not that of nobody
	nobody.finds(t, "of no name, behind what is none", 0, nobody.pool[31], nobody.leaf)
	alone := question{o.v, []api.Anchor{{Key: o.pubs[1]}}, nil, leaf(nil), now, nil}
	alone.finds(t, "below no name", 0, alone.leaf)
}

// P15.1: rounds, one's own certificates, and the leaf in the pool: each one of the pool once, but by its place.
func TestRounds(t *testing.T) {
	o := newOffice(t, 6)
	ab, ba := o.cert(t, 1, "A", 1, "B", 2), o.cert(t, 2, "B", 2, "A", 1)
	leaf := o.cert(t, 3, "B", 2, "Ann", 3)
	q := question{o.v, []api.Anchor{o.anchor("Root", 0)}, [][]byte{ab, ba}, leaf, now, nil}
	q.fails(t, "there and back", api.ErrNoPath)
	if n := q.asTold().tried; n != 3 {
		t.Error(n, "were tried")
	}
	q.pool = append(q.pool, o.cert(t, 4, "Root", 0, "A", 1))
	q.finds(t, "there", 0, q.pool[2], ab, leaf)
	q.pool = [][]byte{ab, ba, o.cert(t, 4, "Root", 0, "B", 2)}
	q.finds(t, "there and back, from the other end", 0, q.pool[2], ba, ab, leaf)
	own := o.cert(t, 5, "Root", 0, "Root", 0)
	q = question{o.v, []api.Anchor{o.anchor("Root", 0)}, [][]byte{own, own}, own, now, nil}
	q.finds(t, "one's own, alone", 0, own)
	q.anchors = []api.Anchor{o.anchor("Root", 4)}
	q.fails(t, "one's own, of nobody", api.ErrNoPath)
	if n := q.asTold().tried; n != 5 {
		t.Error(n, "were tried")
	}
	q.pool = [][]byte{own, own, o.cert(t, 6, "Root", 4, "Root", 0)} // a new key, by the old one
	q.finds(t, "one's own thrice, as they stand twice in the pool", 0, q.pool[2], own, own, own)
	q.pool = [][]byte{own, q.pool[2]}
	q.finds(t, "one's own twice, as it stands in the pool", 0, q.pool[1], own, own)
	leafOnly := o.signed(t, api.Cert{Serial: 7, Issuer: cn("Root"), From: from, To: to, Subject: cn("Root"), Key: o.pubs[0]}, 0)
	q.leaf, q.pool = leafOnly, [][]byte{leafOnly, q.pool[1]} // it may make none
	q.finds(t, "around the leaf in the pool", 0, q.pool[1], leafOnly)
}

// dead are the same bytes so many times: of somebody whom nobody believes.
func (o office) dead(t *testing.T, n int, issuer, subject string) [][]byte {
	t.Helper()
	return slices.Repeat([][]byte{o.cert(t, 70, issuer, 5, subject, 5)}, n)
}

// maze is a pool for a leaf of B, in which nothing holds: rows of so many, of which each one may have made each of the row ahead; the last row stands first.
func (o office) maze(t *testing.T, rows ...int) [][]byte {
	t.Helper()
	var pool [][]byte
	subject := "B"
	for row, n := range rows {
		issuer := fmt.Sprint("Row ", row)
		pool = append(o.dead(t, n, issuer, subject), pool...)
		subject = issuer
	}
	return pool
}

// P15.1: the 500th chain is tried, and none behind it; each chain counts, whatever anchors there are, and each place of the pool.
func TestTries(t *testing.T) {
	o := newOffice(t, 8)
	leaf := o.cert(t, 1, "B", 2, "Ann", 3)
	good := o.cert(t, 2, "Root", 0, "B", 2)
	root := o.anchor("Root", 0)
	one := o.dead(t, 1, "Nobody", "B")
	maze := o.maze(t, 3, 11, 14) // of 28: with the leaf 499 chains are tried
	crowd := []api.Anchor{o.anchor("B", 6), o.anchor("Row 0", 6), o.anchor("Row 1", 6), o.anchor("Row 2", 6), o.anchor("Row 2", 7), o.anchor("Root", 6)}
	for _, anchors := range [][]api.Anchor{{root}, append(slices.Clone(crowd), root), append(slices.Repeat(crowd, 5), root)} {
		at := len(anchors) - 1
		for _, nothing := range [][][]byte{nil, {nil}, {{0x30, 0}, o.cert(t, 3, "B", 2, "Nobody else", 4)}} {
			what := fmt.Sprint(len(anchors), " anchors, and ", len(nothing), " that count as nothing")
			q := question{v: o.v, anchors: anchors, leaf: leaf, now: now}
			q.pool = slices.Concat(nothing, maze, [][]byte{good})
			q.finds(t, what+": the 500th", at, good, leaf)
			if n := q.asTold().tried; n != 500 {
				t.Error(what, n)
			}
			q.pool = slices.Concat(nothing, maze, one, [][]byte{good})
			q.fails(t, what+": the 501st", api.ErrNoPath)
			q.pool = slices.Concat(nothing, [][]byte{good}, maze, one)
			q.finds(t, what+": the second", at, good, leaf)
			q.pool = slices.Concat(nothing, maze[1:], one, [][]byte{good})
			q.finds(t, what+": one less in the last row", at, good, leaf)
		}
	}
}

// P15.1: also deep down there is an end to it; and what is longer than may be is not tried, and not counted.
func TestTriesDeepDown(t *testing.T) {
	o := newOffice(t, 12)
	line := o.line(t, 8)
	q := question{v: o.v, anchors: []api.Anchor{o.anchor(step(0), 0)}, leaf: line[7], now: now}
	for n := range 8 { // of each place some that lead nowhere, ahead of the right one
		for twin := range 20 {
			bad := o.dead(t, twin, step(0), step(n))
			q.pool = slices.Concat(bad, line[:7])
			if got := q.hold(t, fmt.Sprint(twin, " at ", n)); n > 0 && (got.e != api.OK || got.tried != 8+twin) {
				t.Error(got.e, got.tried, "were tried")
			}
		}
	}
	last := -1
	for twins := 3; twins <= 23; twins += 5 { // two rows, one behind the other, so that the right way comes later and later
		for split := 1; split < twins; split += 2 {
			q.pool = slices.Concat(o.dead(t, split, step(6), step(7)), o.dead(t, twins-split, step(5), step(6)), line[:7])
			if got := q.hold(t, fmt.Sprint(split, " of ", twins)); got.e == api.OK {
				last = max(last, got.tried)
			}
		}
	}
	if last < 300 {
		t.Error("found after", last)
	}
}

// P15.1: chains of eight are tried, and those of nine are not, nor counted.
func TestTriesOfTheLongest(t *testing.T) {
	o := newOffice(t, 8)
	q := question{v: o.v, anchors: []api.Anchor{o.anchor("Root", 0)}, leaf: o.cert(t, 1, "B", 2, "Ann", 3), now: now}
	good := o.cert(t, 2, "Root", 0, "B", 2)
	for _, ninth := range []int{0, 1, 12} {
		q.pool = append(o.maze(t, 3, 1, 2, 3, 2, 2, 5, ninth), good)
		q.finds(t, fmt.Sprint("the 500th, with ", ninth, " too deep"), 0, good, q.leaf)
		if n := q.asTold().tried; n != 500 {
			t.Error(ninth, n)
		}
		q.pool = append(o.maze(t, 3, 1, 2, 3, 2, 2, 6, ninth), good)
		q.fails(t, fmt.Sprint("later, with ", ninth, " too deep"), api.ErrNoPath)
	}
}

// draw is a question about few names, each of which has few keys: much of it is right.
func draw(t *testing.T, o office, below func(int) int) question {
	t.Helper()
	names := []string{"A", "B", "C", "D", "E"}[:2+below(4)]
	few := 1 + below(2) // keys of each name
	pick := func() (string, int) {
		n := below(len(names))
		return names[n], n*2 + below(few)
	}
	cert := func() []byte {
		issuer, by := pick()
		subject, key := pick()
		c := api.Cert{Serial: int64(below(9)), Issuer: cn(issuer), From: int64(100 + below(45)), To: int64(155 + below(45)), Subject: cn(subject), Key: o.pubs[key], Exts: maker}
		switch below(16) {
		case 0:
			c.Exts = api.Exts{}
		case 1:
			c.Exts.Usage = api.UseSign
		case 2:
			c.Exts.Odd = []api.Odd{{Oid: []int{1, 9}, Crit: below(2) == 0}}
		case 3:
			c.Exts.Exclude = []api.Name{cn(names[below(len(names))])}
		case 4:
			c.Exts.Permit = []api.Name{cn(names[below(len(names))]), cn(names[below(len(names))])}
		case 5:
			c.From, c.To = 100, 149
		case 6:
			by = below(10)
		}
		if below(4) == 0 {
			c.Exts = api.Exts{HasCA: true, CA: true, Path: below(4)}
		}
		if below(8) == 0 {
			c.Issuer = cn(strings.ToLower(issuer) + " ")
		}
		return o.signed(t, c, by)
	}
	q := question{v: o.v, leaf: cert(), now: int64(140 + below(25))}
	for range below(4) {
		n, key := pick()
		q.anchors = append(q.anchors, o.anchor(n, key))
	}
	for range below(14) {
		switch below(12) {
		case 0:
			q.pool = append(q.pool, []byte{0x30, byte(below(2))})
		case 1:
			q.pool = append(q.pool, q.leaf)
		case 2:
			if len(q.pool) > 0 {
				q.pool = append(q.pool, q.pool[below(len(q.pool))])
			}
		default:
			q.pool = append(q.pool, cert())
		}
	}
	for range below(3) {
		n, key := pick()
		q.lists = append(q.lists, o.takesBack(t, n, key, int64(below(3)), int64(3+below(6))))
	}
	return q
}

// P15.1: drawn questions: ways of all lengths are found among them, some late, and some not any more.
func TestDrawn(t *testing.T) {
	o := newOffice(t, 10)
	below := drawn()
	lengths, late, ended, none := map[int]int{}, 0, 0, 0
	for n := range 1200 {
		o = o.fresh(t)
		got := draw(t, o, below).hold(t, fmt.Sprint("drawn ", n))
		switch {
		case got.e == api.OK:
			lengths[len(got.chain)]++
			if got.tried > 50 {
				late++
			}
		case got.tried == 500:
			ended++
		default:
			none++
		}
	}
	for n := 1; n <= 5; n++ {
		if lengths[n] < 5 {
			t.Error(n, lengths)
		}
	}
	if late < 5 || ended < 5 || none < 100 {
		t.Error(late, ended, none)
	}
}

// P15.2, P15.3: of drawn questions again: what is told holds, ends with the leaf, and is of the pool; a leaf that holds alone is told alone.
func TestSound(t *testing.T) {
	o := newOffice(t, 10)
	below := drawn()
	told, alone := 0, 0
	for n := range 1500 {
		o = o.fresh(t)
		q := draw(t, o, below)
		chain, at, e := q.build()
		c, _ := certs.Get(q.leaf)
		first := slices.IndexFunc(q.anchors, func(a api.Anchor) bool {
			e, _ := chains.Validate(q.v, a, [][]byte{q.leaf}, q.now, q.lists)
			return e == api.OK && same(a.Name, c.Issuer)
		})
		if first >= 0 {
			alone++
			if e != api.OK || at != first || !alike(chain, [][]byte{q.leaf}) {
				t.Errorf("%d holds alone below %d: %v, %d below %d", n, first, e, len(chain), at)
			}
		}
		if e != api.OK {
			continue
		}
		told++
		if len(chain) == 0 || len(chain) > 8 || at < 0 || at >= len(q.anchors) {
			t.Fatal(n, len(chain), at)
		}
		if e, place := chains.Validate(q.v, q.anchors[at], chain, q.now, q.lists); e != api.OK || place != -1 {
			t.Error(n, e, place)
		}
		if !bytes.Equal(chain[len(chain)-1], q.leaf) {
			t.Error(n, "does not end with the leaf")
		}
		rest := slices.Clone(q.pool) // each of its places is used once
		for _, b := range chain[:len(chain)-1] {
			place := slices.IndexFunc(rest, func(other []byte) bool { return bytes.Equal(b, other) })
			if place < 0 {
				t.Fatal(n, "is not of the pool")
			}
			rest = slices.Delete(rest, place, place+1)
		}
	}
	if told < 400 || alone < 200 {
		t.Error(told, alone)
	}
}

// P1: whatever comes in, it ends, and does not panic.
func TestNoPanic(t *testing.T) {
	o := newOffice(t, 9)
	line := o.line(t, 4)
	for _, v := range []*vault.Vault{{}, vault.New()} {
		question{v, []api.Anchor{o.anchor(step(0), 0)}, line[:3], line[3], now, nil}.fails(t, "a vault of nothing", api.ErrNoPath)
	}
	for _, key := range []int{math.MinInt, -1, 0, 1, o.v.Len(), 1 << 48, math.MaxInt} {
		for _, time := range []int64{math.MinInt64, -1, 0, now, math.MaxInt64} {
			for _, n := range []api.Name{nil, {}, {{}}, {{Oid: []int{-1, math.MinInt, math.MaxInt}, Text: "\xff\xc3"}}, cn(step(0))} {
				a := []api.Anchor{{Name: n, Key: key}, {Name: n, Key: key}}
				question{o.v, a, line[:3], line[3], time, line}.hold(t, "what may come in")
				question{o.v, a, [][]byte{nil, {}, {0x30}}, line[0], time, [][]byte{nil, {}, {0x30}}}.hold(t, "what may come in")
			}
		}
	}
	below := drawn()
	for range 2000 { // bytes changed, cut, and put in
		all := slices.Clone(line)
		which := below(4)
		b := slices.Clone(all[which])
		switch place := below(len(b)); below(3) {
		case 0:
			b[place] = byte(below(256))
		case 1:
			b = b[:place]
		default:
			b = slices.Insert(b, place, byte(below(256)))
		}
		all[which] = b
		question{o.v, []api.Anchor{o.anchor(step(0), 0)}, all[:3], all[3], now, [][]byte{b}}.hold(t, "changed bytes")
	}
}

// P1: very many of all, long bytes, deep ones, wide ones, great names.
func TestGreatInputs(t *testing.T) {
	o := newOffice(t, 3)
	line := o.line(t, 2)
	root := o.anchor(step(0), 0)
	question{o.v, slices.Repeat([]api.Anchor{root}, 1<<20), nil, line[0], now, nil}.fails(t, "many anchors", api.ErrTooMany)
	question{o.v, []api.Anchor{root}, slices.Repeat(line, 1<<20), line[0], now, nil}.fails(t, "a great pool", api.ErrTooMany)
	question{o.v, []api.Anchor{root}, nil, line[0], now, make([][]byte, 1<<21)}.fails(t, "many lists", api.ErrTooMany)
	for _, b := range []string{
		strings.Repeat("\x30\x80", 1<<20), strings.Repeat("\x30\x00", 1<<20), strings.Repeat("\x05\x00", 1<<20), "\x30\x83\xff\xff\xff" + strings.Repeat("\x00", 1<<22), "\x30\x82\xff\xfe" + strings.Repeat("\x05\x00", 32767), "\x04\x82\xff\xff" + strings.Repeat("x", 65535),
	} {
		_, e := certs.Get([]byte(b))
		question{o.v, []api.Anchor{root}, line, []byte(b), now, nil}.fails(t, "a long leaf", e)
		question{o.v, []api.Anchor{root}, append(slices.Repeat([][]byte{[]byte(b)}, 31), line[0]), line[1], now, [][]byte{[]byte(b)}}.finds(t, "a long pool", 0, line...)
	}
	great := []api.Anchor{{Name: cn(strings.Repeat("x", 1<<22)), Key: o.pubs[0]}, {Name: make(api.Name, 1<<20), Key: o.pubs[0]}, {Name: cn(strings.Repeat(" ", 1<<20) + step(0)), Key: o.pubs[0]}}
	question{o.v, great, line[:1], line[1], now, nil}.finds(t, "great names", 2, line...)
}

// P1: as much as may be to try: all have one name, and sign for all.
func TestMostToTry(t *testing.T) {
	o := newOffice(t, 40)
	var pool [][]byte
	for n := range 32 {
		pool = append(pool, o.cert(t, n, "A", 0, "A", 0))
	}
	leaf := o.signed(t, api.Cert{Serial: 50, Issuer: cn("A"), From: from, To: now - 1, Subject: cn("A"), Key: o.pubs[0]}, 0)
	list := api.CRL{Issuer: cn("A"), This: from, Next: to}
	for n := range 256 {
		list.Serials = append(list.Serials, int64(100+n))
	}
	body, _ := crls.Body(list)
	list.Sig, _ = crypto.Sign(o.v, o.keys[0], body)
	b, _ := crls.Put(list)
	for _, right := range []int{1, 32} {
		var anchors []api.Anchor
		for n := range 32 {
			key := 39 - n
			if n < right {
				key = 0
			}
			anchors = append(anchors, o.anchor("A", key))
		}
		_, at, e := paths.Build(o.v, anchors, pool, leaf, now, slices.Repeat([][]byte{b}, 16))
		if at != -1 || e != api.ErrNoPath {
			t.Error(at, e)
		}
	}
}

// roomy are the same bytes, with spare room behind each list of them.
func roomy(lists [][]byte) [][]byte {
	all := make([][]byte, 0, len(lists)+3)
	for _, b := range lists {
		all = append(all, append(make([]byte, 0, len(b)+40), b...))
	}
	return all
}

// whole are all bytes of lists, those in their spare room too.
func whole(lists [][]byte) string {
	var all [][]byte
	for _, b := range lists[:cap(lists)] {
		all = append(all, b[:cap(b)])
	}
	return string(bytes.Join(all, []byte("|"))) + fmt.Sprint(len(all))
}

// state is all that a question has, with what is in spare room.
func (q question) state() string {
	return whole(q.pool) + whole(q.lists) + whole([][]byte{q.leaf}) + fmt.Sprint(q.anchors[:cap(q.anchors)], q.v.Len())
}

// P3, P2: nothing that is handed in is changed, nor its spare room; no term is put into the vault; what comes out is new memory, in lists of their own; and the same comes out again, whatever was asked and written between.
func TestNothingIsChanged(t *testing.T) {
	o := newOffice(t, 10)
	below := drawn()
	found := 0
	for n := range 400 {
		o = o.fresh(t)
		q := draw(t, o, below)
		one := q.leaf
		q.pool, q.lists, q.leaf = roomy(q.pool), roomy(q.lists), roomy([][]byte{q.leaf})[0]
		for i := range q.pool { // the leaf in the pool is the same list
			if bytes.Equal(q.pool[i], one) {
				q.pool[i] = q.leaf
			}
		}
		q.anchors = append(make([]api.Anchor, 0, len(q.anchors)+3), q.anchors...)
		before := q.state()
		told := q.hold(t, fmt.Sprint("drawn ", n))
		want := roomy(told.chain)
		if q.state() != before {
			t.Fatal(n, "is changed")
		}
		chain, at, e := q.build()
		for i := range chain {
			found++
			full := chain[i][:cap(chain[i])]
			for k := range full {
				full[k] = 0xee
			}
			for j := i + 1; j < len(chain); j++ {
				if !bytes.Equal(chain[j], want[j]) {
					t.Error(n, i, j, "share memory")
				}
			}
		}
		clear(chain[:cap(chain)])
		if q.state() != before {
			t.Fatal(n, "is changed by what is written into what came out")
		}
		again, place, f := q.build()
		if f != e || place != at || !alike(again, want) {
			t.Errorf("%d: %v, and then %v", n, e, f)
		}
		for _, b := range append(slices.Clone(q.pool), q.leaf) {
			clear(b[:cap(b)])
		}
		if !alike(again, want) {
			t.Error(n, "is changed by what is written into what was handed in")
		}
	}
	if found < 150 {
		t.Error(found)
	}
}

func ExampleBuild() {
	v := vault.New()
	rootKey, _ := crypto.Atom(v, 1)
	key, _ := crypto.Atom(v, 2)
	rootPub, _ := crypto.Pub(v, rootKey)
	pub, _ := crypto.Pub(v, key)
	put := func(c api.Cert, by int) []byte {
		body, _ := certs.Body(c)
		c.Sig, _ = crypto.Sign(v, by, body)
		b, _ := certs.Put(c)
		return b
	}
	middle := put(api.Cert{Serial: 1, Issuer: cn("Root"), To: 86400, Subject: cn("Middle"), Key: pub, Exts: api.Exts{HasCA: true, CA: true, Path: -1}}, rootKey)
	leaf := put(api.Cert{Serial: 2, Issuer: cn("middle"), To: 86400, Subject: cn("Ann"), Key: pub}, key)
	root := []api.Anchor{{Name: cn("Root"), Key: rootPub}}
	chain, at, e := paths.Build(v, root, [][]byte{middle}, leaf, 0, nil)
	fmt.Println(len(chain), bytes.Equal(chain[0], middle), bytes.Equal(chain[1], leaf), at, e)
	chain, at, e = paths.Build(v, root, nil, leaf, 0, nil)
	fmt.Println(len(chain), at, e)
	// Output:
	// 2 true true 0 warder: error 0
	// 0 -1 warder: error 151
}
