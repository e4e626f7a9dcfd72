package crypto_test

import (
	"bytes"
	"math"
	"slices"
	"strconv"
	"strings"
	"testing"

	"warder/api"
	"warder/crypto"
	"warder/terms"
	"warder/vault"
)

// drawn tells numbers that look drawn, and are the same each time.
func drawn() func(below int) int {
	state := uint64(1)
	return func(below int) int {
		state = state*6364136223846793005 + 1442695040888963407
		return int(state>>33) % below
	}
}

func atom(num int64) api.Term { return api.Term{Op: api.TermAtom, Num: num} }

func pub(key api.Term) api.Term { return api.Term{Op: api.TermPub, Kids: []api.Term{key}} }

func exp(kids ...api.Term) api.Term { return api.Term{Op: api.TermExp, Kids: kids} }

func hash(data string) api.Term { return api.Term{Op: api.TermHash, Data: []byte(data)} }

// with is a term of a key and of data.
func with(op api.TermOp, key api.Term, data string) api.Term {
	return api.Term{Op: op, Data: []byte(data), Kids: []api.Term{key}}
}

// within is a term that lies in so many others.
func within(outer int, op api.TermOp, t api.Term) api.Term {
	for range outer {
		t = api.Term{Op: op, Kids: []api.Term{t}}
	}
	return t
}

var (
	one, two, three = atom(1), atom(2), atom(3)
	long            = strings.Repeat("x", 8192)
	noHandles       = []int{-1, -2, math.MinInt, math.MaxInt, 1 << 32, 1 << 48, -1 << 32}
)

// alike: are two terms one and the same?
func alike(a, b api.Term) bool {
	if a.Op != b.Op || a.Num != b.Num || !bytes.Equal(a.Data, b.Data) || len(a.Kids) != len(b.Kids) {
		return false
	}
	for i := range a.Kids {
		if !alike(a.Kids[i], b.Kids[i]) {
			return false
		}
	}
	return true
}

// hold: do two vaults have the same terms by the same numbers?
func hold(t *testing.T, v, w *vault.Vault) {
	t.Helper()
	if v.Len() != w.Len() {
		t.Fatalf("%d terms, not %d", v.Len(), w.Len())
	}
	for n := range v.Len() {
		a, _ := v.Term(n)
		b, _ := w.Term(n)
		if !alike(a, b) {
			t.Fatalf("%d: %.60v, not %.60v", n, a, b)
		}
	}
}

// filled is a vault of some terms, and their handles.
func filled(t *testing.T, some ...api.Term) (*vault.Vault, []int) {
	t.Helper()
	v := vault.New()
	var all []int
	for i, x := range some {
		n, e := v.Intern(x)
		if e != api.OK {
			t.Fatal(i, n, e)
		}
		all = append(all, n)
	}
	return v, all
}

// full is a vault of such terms, and of atoms from 1000 on till so many are left that there is room for.
func full(t *testing.T, left int, some ...api.Term) (*vault.Vault, []int) {
	t.Helper()
	v, all := filled(t, some...)
	for i := int64(1000); v.Len() < 4096-left; i++ {
		if n, e := v.Intern(atom(i)); e != api.OK {
			t.Fatal(n, e)
		}
	}
	return v, all
}

// call is one that answers a handle, of two handles (of which it may need none, or one), a number and bytes; needs tells how many.
type call struct {
	name  string
	needs int
	make1 func(v *vault.Vault, a, b int, num int64, msg []byte) (int, api.Errno)
	term  func(a, b api.Term, num int64, msg []byte) (api.Term, bool) // what the chapter names
}

// calls are all those of K1 and K2.
func calls() []call {
	of := func(op api.TermOp) func(a, b api.Term, num int64, msg []byte) (api.Term, bool) {
		return func(a, b api.Term, num int64, msg []byte) (api.Term, bool) {
			return with(op, a, string(msg)), true
		}
	}
	return []call{
		{"Atom", 0, func(v *vault.Vault, a, b int, num int64, msg []byte) (int, api.Errno) { return crypto.Atom(v, num) },
			func(a, b api.Term, num int64, msg []byte) (api.Term, bool) { return atom(num), true }},
		{"Exp", 1, func(v *vault.Vault, a, b int, num int64, msg []byte) (int, api.Errno) { return crypto.Exp(v, a) },
			func(a, b api.Term, num int64, msg []byte) (api.Term, bool) { return exp(a), true }},
		{"Pow", 2, func(v *vault.Vault, a, b int, num int64, msg []byte) (int, api.Errno) { return crypto.Pow(v, a, b) },
			func(a, b api.Term, num int64, msg []byte) (api.Term, bool) {
				p := exp(append(slices.Clone(a.Kids), b)...)
				slices.SortFunc(p.Kids, terms.Order)
				return p, a.Op == api.TermExp && terms.Right(p)
			}},
		{"Pub", 1, func(v *vault.Vault, a, b int, num int64, msg []byte) (int, api.Errno) { return crypto.Pub(v, a) },
			func(a, b api.Term, num int64, msg []byte) (api.Term, bool) { return pub(a), true }},
		{"Sign", 1, func(v *vault.Vault, a, b int, num int64, msg []byte) (int, api.Errno) { return crypto.Sign(v, a, msg) }, of(api.TermSign)},
		{"Seal", 1, func(v *vault.Vault, a, b int, num int64, msg []byte) (int, api.Errno) { return crypto.Seal(v, a, msg) }, of(api.TermEnc)},
		{"Kdf", 1, func(v *vault.Vault, a, b int, num int64, msg []byte) (int, api.Errno) { return crypto.Kdf(v, a, msg) }, of(api.TermKdf)},
		{"Hash", 0, func(v *vault.Vault, a, b int, num int64, msg []byte) (int, api.Errno) { return crypto.Hash(v, msg) },
			func(a, b api.Term, num int64, msg []byte) (api.Term, bool) { return hash(string(msg)), true }},
	}
}

// told is what the chapter asks of a call, on a vault of its own that is used in step with the other one.
func told(c call, w *vault.Vault, a, b int, num int64, msg []byte) (int, api.Errno) {
	if w == nil {
		return -1, api.ErrArg
	}
	x, isA := w.Term(a)
	y, isB := w.Term(b)
	if c.needs > 0 && !isA || c.needs > 1 && !isB {
		return -1, api.ErrHandle
	}
	made, is := c.term(x, y, num, msg)
	if !is {
		return -1, api.ErrKind
	}
	return w.Intern(made)
}

// holdCall: a call answers what is told.
func holdCall(t *testing.T, c call, v, w *vault.Vault, a, b int, num int64, msg []byte) (int, api.Errno) {
	t.Helper()
	want, wantE := told(c, w, a, b, num, msg)
	n, e := c.make1(v, a, b, num, msg)
	if n != want || e != wantE {
		t.Fatalf("%s(%d, %d, %d, %.20q): %d %v, not %d %v", c.name, a, b, num, msg, n, e, want, wantE)
	}
	if v != nil && v.Len() != w.Len() {
		t.Fatalf("%s: %d terms, not %d", c.name, v.Len(), w.Len())
	}
	return n, e
}

// P7.1, K1, K2: what each call puts in, and where.
func TestMade(t *testing.T) {
	v, k := filled(t, one, two, exp(two), exp(one, three))
	for i, c := range []struct {
		make1 func() (int, api.Errno)
		want  api.Term
		n     int // its number
	}{
		{func() (int, api.Errno) { return crypto.Atom(v, 1) }, one, 0},
		{func() (int, api.Errno) { return crypto.Atom(v, 0) }, atom(0), 5},
		{func() (int, api.Errno) { return crypto.Atom(v, 1<<40) }, atom(1 << 40), 6},
		{func() (int, api.Errno) { return crypto.Exp(v, k[0]) }, exp(one), 7},
		{func() (int, api.Errno) { return crypto.Exp(v, k[1]) }, exp(two), 2},
		{func() (int, api.Errno) { return crypto.Exp(v, k[2]) }, exp(exp(two)), 8},
		{func() (int, api.Errno) { return crypto.Pow(v, k[2], k[0]) }, exp(one, two), 9},
		{func() (int, api.Errno) { return crypto.Pow(v, k[3], k[1]) }, exp(one, two, three), 10},
		{func() (int, api.Errno) { return crypto.Pow(v, k[3], k[0]) }, exp(one, one, three), 11},
		{func() (int, api.Errno) { return crypto.Pow(v, k[2], k[2]) }, exp(two, exp(two)), 12},
		{func() (int, api.Errno) { return crypto.Pub(v, k[0]) }, pub(one), 13},
		{func() (int, api.Errno) { return crypto.Pub(v, k[2]) }, pub(exp(two)), 14},
		{func() (int, api.Errno) { return crypto.Sign(v, k[0], []byte("a")) }, with(api.TermSign, one, "a"), 15},
		{func() (int, api.Errno) { return crypto.Seal(v, k[0], []byte("a")) }, with(api.TermEnc, one, "a"), 16},
		{func() (int, api.Errno) { return crypto.Kdf(v, k[0], []byte("a")) }, with(api.TermKdf, one, "a"), 17},
		{func() (int, api.Errno) { return crypto.Sign(v, k[0], nil) }, with(api.TermSign, one, ""), 18},
		{func() (int, api.Errno) { return crypto.Seal(v, k[3], []byte(long)) }, with(api.TermEnc, exp(one, three), long), 19},
		{func() (int, api.Errno) { return crypto.Hash(v, []byte("a")) }, hash("a"), 20},
		{func() (int, api.Errno) { return crypto.Hash(v, nil) }, hash(""), 21},
		{func() (int, api.Errno) { return crypto.Hash(v, []byte{}) }, hash(""), 21},
		{func() (int, api.Errno) { return crypto.Hash(v, []byte(long)) }, hash(long), 22},
		{func() (int, api.Errno) { return crypto.Kdf(v, 17, []byte("b")) }, with(api.TermKdf, with(api.TermKdf, one, "a"), "b"), 23},
		{func() (int, api.Errno) { return crypto.Sign(v, k[0], []byte("a")) }, with(api.TermSign, one, "a"), 15},
	} {
		for range 2 { // the same again is there already
			n, e := c.make1()
			if x, is := v.Term(n); n != c.n || e != api.OK || !is || !alike(x, c.want) {
				t.Errorf("%d: %d %v, %v, not %d, %v", i, n, e, x, c.n, c.want)
			}
		}
	}
	if v.Len() != 24 {
		t.Error(v.Len())
	}
}

// P7.1, K1 to K3: without a vault nothing is asked further.
func TestNoVault(t *testing.T) {
	for _, c := range calls() {
		for _, a := range append(noHandles, 0, 1) {
			for _, b := range []int{-1, 0, 5} {
				for _, num := range []int64{-1, 0, 1 << 41} {
					for _, msg := range []string{"", "a", long + "x"} {
						if n, e := c.make1(nil, a, b, num, []byte(msg)); n != -1 || e != api.ErrArg {
							t.Fatal(c.name, n, e)
						}
					}
				}
			}
			if crypto.Verify(nil, a, nil, 0) || crypto.Verify(nil, 0, nil, a) {
				t.Fatal("verified")
			}
			if b, is := crypto.Open(nil, a, 0); b != nil || is {
				t.Fatal(b, is)
			}
		}
	}
}

// P7.1: numbers that are no handles, at each place, whatever else is wrong; nothing is put in.
func TestNoHandles(t *testing.T) {
	for _, full1 := range []int{4000, 0} { // with room, and without
		v, k := full(t, full1, one, exp(one), pub(one), with(api.TermSign, one, "m"), with(api.TermEnc, one, "m"))
		w, _ := full(t, full1, one, exp(one), pub(one), with(api.TermSign, one, "m"), with(api.TermEnc, one, "m"))
		for _, bad := range append(noHandles, v.Len(), v.Len()+1, v.Len()+1<<32) {
			for _, msg := range []string{"m", long + "x"} {
				for _, c := range calls() {
					if c.needs == 0 {
						continue
					}
					for _, good := range append(k, v.Len()-1) {
						if n, e := holdCall(t, c, v, w, bad, good, 0, []byte(msg)); n != -1 || e != api.ErrHandle {
							t.Fatal(c.name, bad, n, e)
						}
						if c.needs == 2 {
							if n, e := holdCall(t, c, v, w, good, bad, 0, []byte(msg)); n != -1 || e != api.ErrHandle {
								t.Fatal(c.name, bad, n, e)
							}
							holdCall(t, c, v, w, bad, bad, 0, nil)
						}
					}
				}
			}
			for _, good := range k {
				if crypto.Verify(v, bad, []byte("m"), good) || crypto.Verify(v, good, []byte("m"), bad) || crypto.Verify(v, bad, []byte("m"), bad) {
					t.Fatal("verified by", bad)
				}
				for _, c := range [][2]int{{bad, good}, {good, bad}, {bad, bad}} {
					if b, is := crypto.Open(v, c[0], c[1]); b != nil || is {
						t.Fatal("opened", c, b, is)
					}
				}
			}
		}
		hold(t, v, w)
	}
}

// P7.1, K1: what no power is made of: a base that is none, one of four exponents, and what would lie too deep.
func TestNoPower(t *testing.T) {
	deep := within(15, api.TermPub, one)
	most := within(14, api.TermPub, one)
	some := []api.Term{one, pub(one), with(api.TermSign, one, "a"), with(api.TermEnc, one, "a"), hash("a"), with(api.TermKdf, one, "a"), exp(one, one, one, one), exp(one), exp(one, one, one), exp(), exp(most), deep, pub(exp(one))}
	for _, left := range []int{4000, 0} {
		v, k := full(t, left, some...)
		w, _ := full(t, left, some...)
		for i, base := range some {
			for j, x := range some {
				n, e := holdCall(t, calls()[2], v, w, k[i], k[j], 0, nil)
				want := base.Op == api.TermExp && len(base.Kids) < 4 && !alike(x, deep)
				if inner := x.Op == api.TermExp && len(x.Kids) == 1 && alike(x.Kids[0], most); inner {
					want = false // it lies in fifteen already
				}
				if !want && (n != -1 || e != api.ErrKind) {
					t.Errorf("%v to the power of %v: %d %v", base, x, n, e)
				}
				if want && (left > 0 && e != api.OK || e == api.ErrKind) {
					t.Errorf("%v to the power of %v: %d %v", base, x, n, e)
				}
			}
		}
		hold(t, v, w)
	}
}

// P7.1: what is no term: numbers of atoms, bytes that are too many, keys that lie too deep; nothing is put in, and room is not asked for.
func TestNoTerm(t *testing.T) {
	deep := within(15, api.TermPub, one)
	for _, left := range []int{4000, 0} {
		v, k := full(t, left, one, deep, within(14, api.TermPub, one))
		w, _ := full(t, left, one, deep, within(14, api.TermPub, one))
		before := v.Len()
		for _, num := range []int64{-1, 1<<40 + 1, math.MinInt64, math.MaxInt64, -1 << 40, 1<<32 - 1<<62} {
			if n, e := crypto.Atom(v, num); n != -1 || e != api.ErrTerm {
				t.Error(num, n, e)
			}
		}
		for _, c := range calls() {
			for _, msg := range []string{long + "x", long + long, strings.Repeat("x", 1<<20)} {
				if n, e := holdCall(t, c, v, w, k[0], k[0], -1, []byte(msg)); c.name != "Pow" && c.name != "Pub" && c.name != "Exp" && (n != -1 || e != api.ErrTerm) {
					t.Error(c.name, n, e)
				}
			}
			if n, e := holdCall(t, c, v, w, k[1], k[1], -1, nil); c.needs == 1 && (n != -1 || e != api.ErrTerm) {
				t.Error(c.name, n, e)
			}
		}
		if left == 0 && v.Len() != before {
			t.Error("put in")
		}
		for _, c := range calls() {
			holdCall(t, c, v, w, k[2], k[2], 1<<40, []byte(long))
		}
		hold(t, v, w)
	}
}

// P7.1: where there is no room: what is there is told, all else is too many, each by its size.
func TestNoRoom(t *testing.T) {
	some := []api.Term{one, exp(one), pub(two), with(api.TermSign, one, "m"), with(api.TermEnc, one, "m"), with(api.TermKdf, one, "m"), hash("m"), exp(one, two)}
	for left := range 4 {
		for _, c := range calls() {
			for i := range some {
				if c.needs == 0 && i > 0 {
					break
				}
				for num, msg := range []string{"n", "m"} {
					v, k := full(t, left, some...)
					w, _ := full(t, left, some...)
					_, e := holdCall(t, c, v, w, k[i], k[0], int64(num), []byte(msg))
					if left == 0 && e == api.OK && v.Len() != 4096 || v.Len() > 4096 {
						t.Fatal(c.name, v.Len())
					}
				}
			}
		}
	}
	v, k := full(t, 1, one)
	if n, e := crypto.Pub(v, k[0]); n != -1 || e != api.ErrTooMany { // the key counts too
		t.Error(n, e)
	}
	if n, e := crypto.Hash(v, nil); n != 4095 || e != api.OK {
		t.Error(n, e)
	}
	if n, e := crypto.Hash(v, []byte("a")); n != -1 || e != api.ErrTooMany {
		t.Error(n, e)
	}
	if n, e := crypto.Hash(v, nil); n != 4095 || e != api.OK {
		t.Error(n, e)
	}
}

// kinds are keys of all kinds, some of them near one another.
func kinds() []api.Term {
	return []api.Term{one, two, atom(0), atom(12), hash("a"), hash("b"), hash(""), exp(), exp(one), exp(one, two), exp(two), pub(one), pub(two), pub(pub(one)),
		with(api.TermKdf, one, "a"), with(api.TermKdf, one, "b"), with(api.TermKdf, two, "a"), with(api.TermKdf, with(api.TermKdf, one, "a"), "b"),
		with(api.TermSign, one, "a"), with(api.TermEnc, one, "a"), with(api.TermSign, two, "a"), with(api.TermEnc, two, "a"), within(14, api.TermPub, one)}
}

// P7.2: what is sealed, is opened with its key, and with no other; and nothing else is opened.
func TestOpen(t *testing.T) {
	v, keys := filled(t, kinds()...)
	msgs := []string{"", "a", "b", "ab", "a\x00", "\x00", "Ann", long}
	own, data := map[int]int{}, map[int]string{} // of what is sealed
	for _, k := range keys {
		for _, m := range msgs {
			n, e := crypto.Seal(v, k, []byte(m))
			if e != api.OK {
				t.Fatal(n, e)
			}
			own[n], data[n] = k, m
			for _, make1 := range []func(*vault.Vault, int, []byte) (int, api.Errno){crypto.Sign, crypto.Kdf} {
				if n, e := make1(v, k, []byte(m)); e != api.OK {
					t.Fatal(n, e)
				}
			}
		}
	}
	for k := range keys { // those that were keys may be sealed texts themselves
		if x, _ := v.Term(keys[k]); x.Op == api.TermEnc {
			own[keys[k]], _ = v.Find(x.Kids[0])
			data[keys[k]] = string(x.Data)
		}
	}
	for _, k := range keys {
		for n := range v.Len() {
			b, is := crypto.Open(v, k, n)
			key, sealed := own[n]
			if want := sealed && key == k; is != want || want && string(b) != data[n] || !want && b != nil {
				t.Fatalf("%d with %d: %.20q %v", n, k, b, is)
			}
		}
	}
}

// P7.2: a signature is verified by its key's public half over its bytes, and by nothing else.
func TestVerify(t *testing.T) {
	v, keys := filled(t, kinds()[:len(kinds())-1]...)
	msgs := []string{"", "a", "b", "ab", "a\x00", long}
	for _, k := range keys {
		if n, e := crypto.Pub(v, k); e != api.OK {
			t.Fatal(n, e)
		}
		for _, m := range msgs {
			for _, make1 := range []func(*vault.Vault, int, []byte) (int, api.Errno){crypto.Sign, crypto.Kdf, crypto.Seal} {
				if n, e := make1(v, k, []byte(m)); e != api.OK {
					t.Fatal(n, e)
				}
			}
		}
	}
	var all []api.Term
	for n := range v.Len() {
		x, _ := v.Term(n)
		all = append(all, x)
	}
	good := 0
	for p := range all {
		if all[p].Op != api.TermPub && p%5 > 0 { // not all, as they are many
			continue
		}
		for s := range all {
			for _, m := range []string{"", "a", "b", "a\x00", long} {
				want := all[p].Op == api.TermPub && all[s].Op == api.TermSign && alike(all[p].Kids[0], all[s].Kids[0]) && string(all[s].Data) == m
				if is := crypto.Verify(v, p, []byte(m), s); is != want {
					t.Fatalf("%d is the signature of %.20q by %d: %v", s, m, p, is)
				}
				if want {
					good++
				}
			}
		}
	}
	if good < 100 {
		t.Error("too few", good)
	}
	// A key is not its own public half, and bytes of which there is no signature are none's.
	g, _ := crypto.Sign(v, keys[0], []byte("a"))
	p, _ := crypto.Pub(v, keys[0])
	if crypto.Verify(v, keys[0], []byte("a"), g) || crypto.Verify(v, g, []byte("a"), p) || crypto.Verify(v, g, []byte("a"), g) || crypto.Verify(v, p, []byte("a"), p) {
		t.Error("verified")
	}
	if crypto.Verify(v, p, []byte(long+"x"), g) || crypto.Verify(v, p, make([]byte, 1<<20), g) || !crypto.Verify(v, p, []byte("a"), g) {
		t.Error("verified")
	}
	if g, _ = crypto.Sign(v, keys[0], nil); !crypto.Verify(v, p, nil, g) || !crypto.Verify(v, p, []byte{}, g) {
		t.Error("not verified")
	}
}

// P7.2: powers of powers are alike, whoever was first, and of others they are not.
func TestPowers(t *testing.T) {
	v, k := filled(t, kinds()[:len(kinds())-1]...)
	seen := map[int][2]int{}
	for i, x := range k {
		for j, y := range k {
			a, e := crypto.Exp(v, x)
			b, f := crypto.Exp(v, y)
			if e != api.OK || f != api.OK {
				t.Fatal(e, f)
			}
			ab, e := crypto.Pow(v, a, y)
			ba, f := crypto.Pow(v, b, x)
			if ab != ba || e != api.OK || f != api.OK {
				t.Fatal(x, y, ab, ba, e, f)
			}
			if was, is := seen[ab]; is && was != [2]int{j, i} && was != [2]int{i, j} {
				t.Fatal("one power of", was, "and of", i, j)
			}
			seen[ab] = [2]int{i, j}
		}
	}
	// Of three and of four, in all orders.
	for _, way := range [][]int{{0, 1, 2, 3}, {3, 2, 1, 0}, {1, 0, 3, 2}, {2, 3, 0, 1}, {0, 2, 1, 3}} {
		p, e := crypto.Exp(v, k[way[0]])
		for _, i := range way[1:] {
			if e == api.OK {
				p, e = crypto.Pow(v, p, k[i])
			}
		}
		q, _ := v.Find(terms.Norm(exp(kinds()[0], kinds()[1], kinds()[2], kinds()[3])))
		if e != api.OK || p != q {
			t.Error(way, p, e, q)
		}
		if n, e := crypto.Pow(v, p, k[4]); n != -1 || e != api.ErrKind {
			t.Error(n, e)
		}
	}
}

// P7.2: hashes are alike just of the same bytes.
func TestHashes(t *testing.T) {
	v := vault.New()
	msgs := []string{"", "a", "A", "b", "ab", "ba", "a\x00", "\x00a", "\x00", "\x00\x00", "\xff", " ", ":", "é", long, long[1:], long[1:] + "y", "y" + long[1:]}
	for i := range 300 {
		msgs = append(msgs, strconv.Itoa(i))
	}
	seen := map[int]string{}
	for range 2 {
		for _, m := range msgs {
			n, e := crypto.Hash(v, []byte(m))
			if was, is := seen[n]; e != api.OK || is && was != m {
				t.Fatalf("%d %v: %.20q and %.20q", n, e, was, m)
			}
			seen[n] = m
		}
	}
	if len(seen) != len(msgs) || v.Len() != len(msgs) {
		t.Error(len(seen), v.Len())
	}
}

// P7.1: drawn calls, of handles that are there and are not, till there is no room, and on; the other vault has just what the chapter names.
func TestDrawnCalls(t *testing.T) {
	next := drawn()
	all := calls()
	for range 3 {
		v, _ := full(t, 1500)
		w, _ := full(t, 1500)
		seen := map[api.Errno]int{}
		for range 4000 {
			a, b := v.Len()+40-next(2000), next(v.Len()+40)-20
			msg := strings.Repeat("Ann", next(3)) + strings.Repeat(string([]byte{byte(next(3))}), next(3)*next(4))
			if next(50) == 0 {
				msg = long + msg
			}
			num := int64(next(50)-1) << (next(2) * 35)
			_, e := holdCall(t, all[next(len(all))], v, w, a, b, num, []byte(msg))
			seen[e]++
		}
		hold(t, v, w)
		for _, e := range []api.Errno{api.OK, api.ErrHandle, api.ErrKind, api.ErrTerm, api.ErrTooMany} {
			if seen[e] < 20 {
				t.Error("too few of one kind", seen)
			}
		}
		if len(seen) != 5 {
			t.Error(seen)
		}
	}
}

// P2: Verify and Open put nothing in, and what they say is the same again.
func TestAskingChangesNothing(t *testing.T) {
	v, k := filled(t, one, pub(two), with(api.TermEnc, one, "a"), with(api.TermSign, two, "a"))
	before := v.Len()
	for range 3 {
		for _, a := range append(k, -1, 99) {
			for _, b := range append(k, -1, 99) {
				crypto.Verify(v, a, []byte("new"), b)
				crypto.Open(v, a, b)
			}
		}
		if !crypto.Verify(v, k[1], []byte("a"), k[3]) {
			t.Error("not verified")
		}
		if b, is := crypto.Open(v, k[0], k[2]); string(b) != "a" || !is {
			t.Error(b, is)
		}
	}
	if v.Len() != before {
		t.Error(v.Len())
	}
}

// P3: bytes that are handed in are neither changed nor kept; those that come out are new.
func TestBytesAreNobodyElses(t *testing.T) {
	v, k := filled(t, one, pub(one))
	room := append(make([]byte, 0, 64), "Ann Lee, spare"...)
	msg := room[:7]
	for _, c := range calls() {
		n, e := c.make1(v, k[0], k[0], 5, msg)
		if x, _ := v.Term(n); e == api.OK && len(x.Data) > 0 && string(x.Data) != "Ann Lee" {
			t.Fatal(c.name, n, e, x)
		}
	}
	g, _ := crypto.Sign(v, k[0], msg)
	s, _ := crypto.Seal(v, k[0], msg)
	crypto.Verify(v, k[1], msg, g)
	if string(room[:cap(room)]) != "Ann Lee, spare"+strings.Repeat("\x00", 50) {
		t.Errorf("%q", room[:cap(room)])
	}
	for i := range msg {
		msg[i] = 'x'
	}
	a, _ := crypto.Open(v, k[0], s)
	b, _ := crypto.Open(v, k[0], s)
	for i := range a[:cap(a)] {
		a[:cap(a)][i] = 'y'
	}
	c, is := crypto.Open(v, k[0], s)
	if string(b) != "Ann Lee" || string(c) != "Ann Lee" || !is {
		t.Errorf("%q %q %v", b, c, is)
	}
	if !crypto.Verify(v, k[1], []byte("Ann Lee"), g) || crypto.Verify(v, k[1], msg, g) {
		t.Error("the bytes were kept")
	}
}

// P1: a vault that New did not make is one too.
func TestVaultOfNobody(t *testing.T) {
	for _, c := range calls() {
		v := new(vault.Vault)
		if n, e := c.make1(v, 0, 0, 1, nil); c.needs == 0 && (n != 0 || e != api.OK) || c.needs > 0 && (n != -1 || e != api.ErrHandle) {
			t.Error(c.name, n, e)
		}
		if _, is := crypto.Open(v, 0, 0); is || crypto.Verify(v, 0, nil, 0) {
			t.Error("opened, or verified")
		}
	}
}
