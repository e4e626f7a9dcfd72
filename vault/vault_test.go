package vault_test

import (
	"bytes"
	"encoding/hex"
	"maps"
	"math"
	"slices"
	"strconv"
	"strings"
	"testing"

	"warder/api"
	"warder/terms"
	"warder/vault"
)

// drawn tells numbers that look drawn, and are the same each time.
func drawn() func(below int) int {
	state := uint64(1)
	return func(below int) int {
		state = state*6364136223846793005 + 1442695040888963407
		return int(state>>33) % below
	}
}

func atom(num int64) api.Term { return api.Term{Op: api.TermAtom, Num: num} }

func pub(key api.Term) api.Term { return api.Term{Op: api.TermPub, Kids: []api.Term{key}} }

func exp(kids ...api.Term) api.Term { return api.Term{Op: api.TermExp, Kids: kids} }

func hash(data string) api.Term { return api.Term{Op: api.TermHash, Data: []byte(data)} }

// with is a term of a key and of data.
func with(op api.TermOp, key api.Term, data string) api.Term {
	return api.Term{Op: op, Data: []byte(data), Kids: []api.Term{key}}
}

// within is a term that lies in so many others.
func within(outer int, op api.TermOp, t api.Term) api.Term {
	for range outer {
		t = api.Term{Op: op, Kids: []api.Term{t}}
	}
	return t
}

var (
	one, two, three = atom(1), atom(2), atom(3)
	long            = strings.Repeat("x", 8192)
)

func zero(t api.Term) bool { return t.Op == 0 && t.Num == 0 && t.Data == nil && t.Kids == nil }

// alike: are two terms one and the same?
func alike(a, b api.Term) bool {
	if a.Op != b.Op || a.Num != b.Num || !bytes.Equal(a.Data, b.Data) || len(a.Kids) != len(b.Kids) {
		return false
	}
	for i := range a.Kids {
		if !alike(a.Kids[i], b.Kids[i]) {
			return false
		}
	}
	return true
}

// told is V1 as the chapter tells it: terms one behind the other, each looked for from the first on.
type told struct{ list []api.Term }

func (m *told) find(t api.Term) (int, bool) {
	n := slices.IndexFunc(m.list, func(x api.Term) bool { return alike(x, t) })
	return n, n >= 0
}

func (m *told) intern(t api.Term) (int, api.Errno) {
	if !terms.Right(t) {
		return -1, api.ErrTerm
	}
	if n, is := m.find(t); is {
		return n, api.OK
	}
	if len(m.list)+terms.Size(t) > 4096 {
		return -1, api.ErrTooMany
	}
	for _, kid := range t.Kids {
		m.intern(kid)
	}
	m.list = append(m.list, terms.Norm(t))
	return len(m.list) - 1, api.OK
}

// hold: the vault has just the terms that are told.
func hold(t *testing.T, v *vault.Vault, m *told) {
	t.Helper()
	if v.Len() != len(m.list) {
		t.Fatalf("%d terms, not %d", v.Len(), len(m.list))
	}
	for n, want := range m.list {
		x, is := v.Term(n)
		if !is || !alike(x, want) {
			t.Fatalf("%d: %.60v %v, not %.60v", n, x, is, want)
		}
		if found, is := v.Find(want); found != n || !is {
			t.Fatalf("%d: found as %d, %v", n, found, is)
		}
		if found, e := v.Intern(want); found != n || e != api.OK {
			t.Fatalf("%d: put in again as %d, %v", n, found, e)
		}
		for _, kid := range x.Kids {
			if k, is := v.Find(kid); !is || k >= n {
				t.Fatalf("%d has a kid of the number %d, %v", n, k, is)
			}
		}
	}
	for _, n := range []int{-1, len(m.list), len(m.list) + 1, math.MinInt, math.MaxInt, 1 << 32} {
		if x, is := v.Term(n); is || !zero(x) {
			t.Fatalf("the number %d has %v", n, x)
		}
	}
	if v.Len() != len(m.list) {
		t.Fatal("asking has put something in")
	}
}

// put puts a term in, as told, or not.
func put(t *testing.T, v *vault.Vault, m *told, x api.Term) (int, api.Errno) {
	t.Helper()
	wantN, wantIs := m.find(x)
	if n, is := v.Find(x); n != wantN || is != wantIs {
		t.Fatalf("%.60v: found as %d %v, not %d %v", x, n, is, wantN, wantIs)
	}
	want, wantE := m.intern(x)
	n, e := v.Intern(x)
	if n != want || e != wantE || v.Len() != len(m.list) {
		t.Fatalf("%.60v: %d %v, then %d terms, not %d %v, %d", x, n, e, v.Len(), want, wantE, len(m.list))
	}
	return n, e
}

// P6.1, V1: an empty one, and each new one by itself.
func TestNewIsEmpty(t *testing.T) {
	v, w := vault.New(), vault.New()
	if v == nil || w == nil || v == w {
		t.Fatal("not two vaults")
	}
	hold(t, v, &told{})
	if n, is := v.Find(one); n != -1 || is {
		t.Error(n, is)
	}
	v.Intern(two)
	v.Intern(one)
	hold(t, v, &told{[]api.Term{two, one}})
	hold(t, w, &told{})
	hold(t, vault.New(), &told{})
}

// P1: one that New did not make is empty too.
func TestVaultOfNobody(t *testing.T) {
	v, m := new(vault.Vault), &told{}
	hold(t, v, m)
	put(t, v, m, pub(one))
	put(t, v, m, exp(one, two))
	hold(t, v, m)
}

// P6.1, V1: kids stand ahead, in order, each once.
func TestKidsStandAhead(t *testing.T) {
	for i, c := range []struct {
		put  []api.Term
		list []api.Term // what is there then, by numbers
		last int        // what the last Intern tells
	}{
		{[]api.Term{pub(one)}, []api.Term{one, pub(one)}, 1},
		{[]api.Term{pub(one), one}, []api.Term{one, pub(one)}, 0},
		{[]api.Term{one, pub(one)}, []api.Term{one, pub(one)}, 1},
		{[]api.Term{exp()}, []api.Term{exp()}, 0},
		{[]api.Term{exp(), exp()}, []api.Term{exp()}, 0},
		{[]api.Term{exp(one, one)}, []api.Term{one, exp(one, one)}, 1},
		{[]api.Term{exp(one, two, three)}, []api.Term{one, two, three, exp(one, two, three)}, 3},
		{[]api.Term{exp(one, pub(two), exp(two, three))}, []api.Term{one, two, pub(two), three, exp(two, three), exp(one, pub(two), exp(two, three))}, 5},
		{[]api.Term{two, exp(one, two)}, []api.Term{two, one, exp(one, two)}, 2},
		{[]api.Term{exp(pub(one), pub(one), exp(one))}, []api.Term{one, pub(one), exp(one), exp(pub(one), pub(one), exp(one))}, 3},
		{[]api.Term{with(api.TermSign, with(api.TermKdf, one, "a"), "b")}, []api.Term{one, with(api.TermKdf, one, "a"), with(api.TermSign, with(api.TermKdf, one, "a"), "b")}, 2},
		{[]api.Term{hash("a"), hash(""), hash("a")}, []api.Term{hash("a"), hash("")}, 0},
		{[]api.Term{with(api.TermEnc, one, "a"), with(api.TermEnc, two, "a"), two}, []api.Term{one, with(api.TermEnc, one, "a"), two, with(api.TermEnc, two, "a")}, 2},
	} {
		v, last, e := vault.New(), 0, api.OK
		for _, x := range c.put {
			if last, e = v.Intern(x); e != api.OK {
				t.Error(i, e)
			}
		}
		if last != c.last {
			t.Errorf("%d: the number %d", i, last)
		}
		hold(t, v, &told{c.list})
	}
}

// unlike are right terms, no two of which are one and the same, however near they are written.
func unlike() []api.Term {
	all := []api.Term{
		atom(0), one, two, atom(12), atom(10), atom(1 << 40), atom(1<<40 - 1), atom(255), atom(256), atom(1 << 32),
		hash(""), hash("a"), hash("A"), hash("b"), hash("ab"), hash("ba"), hash("a\x00"), hash("\x00"), hash("\x00\x00"), hash("\xff"), hash("\xfe"), hash("é"),
		hash(":"), hash("::"), hash(" "), hash(" 1"), hash(" 1:"), hash("1:"), hash("0"), hash("00"), hash(",1"), hash("0:"), hash("5 0:"), hash("\x01"), hash("\x01\x00"),
		hash(long), hash(long[1:]), hash(long[1:] + "y"), hash("y" + long[1:]),
		exp(), exp(one), exp(two), exp(one, one), exp(one, two), exp(one, one, one), exp(one, one, one, one), exp(one, one, two), exp(one, two, two), exp(atom(12)), exp(two, atom(12)), exp(one, atom(12)),
		exp(exp()), exp(exp(), exp()), exp(exp(exp())), exp(exp(one)), exp(exp(one, one)), exp(exp(one), exp(one)), exp(one, exp(one)), exp(one, exp()), exp(exp(), exp(one)),
		exp(hash("1")), exp(hash("1"), hash("2")), exp(hash("12")), exp(hash(" 12")),
		pub(one), pub(two), pub(atom(12)), pub(pub(one)), pub(exp()), pub(exp(one)), exp(pub(one)), pub(hash("")), pub(hash("a")),
	}
	for _, op := range []api.TermOp{api.TermSign, api.TermEnc, api.TermKdf} {
		for _, key := range []api.Term{one, two, atom(12), atom(10), atom(0), exp(), hash("a"), pub(one)} {
			for _, data := range []string{"", "a", "b", "ab", ":", " 1", "1", "2", "12", " ", "0", "\x00", "\x00\x00", long} {
				all = append(all, with(op, key, data))
			}
		}
		all = append(all, with(op, with(op, one, "a"), ""), with(op, with(op, one, ""), "a"), with(op, with(op, one, ""), ""))
	}
	return all
}

// P6.1, P6.2: unlike terms have unlike numbers, whichever came first; the same ones have the same number.
func TestUnlikeTerms(t *testing.T) {
	all := unlike()
	for i := range all {
		if !terms.Right(all[i]) {
			t.Fatalf("%.60v is not right", all[i])
		}
		for j := range i {
			if alike(all[i], all[j]) {
				t.Fatalf("%.60v twice", all[i])
			}
		}
	}
	v, m := vault.New(), &told{}
	for _, x := range all {
		put(t, v, m, x)
	}
	hold(t, v, m)
	slices.Reverse(all)
	w, back := vault.New(), &told{}
	for _, x := range all {
		put(t, w, back, x)
	}
	hold(t, w, back)
	// In one row, so that numbers of one and of two digits stand beside one another.
	u, row := vault.New(), &told{}
	for i := range 120 {
		put(t, u, row, atom(int64(i)))
	}
	for i := range 120 {
		for _, j := range []int{0, 1, 2, 11, 12, 111, 112} {
			if j >= i {
				put(t, u, row, exp(atom(int64(i)), atom(int64(j))))
			}
		}
		put(t, u, row, pub(atom(int64(i))))
		put(t, u, row, with(api.TermKdf, atom(int64(i)), strconv.Itoa(i)))
	}
	hold(t, u, row)
}

// P6.2: lists that are empty and nil are alike.
func TestEmptyLists(t *testing.T) {
	v := vault.New()
	for _, c := range [][2]api.Term{
		{{Op: api.TermExp}, {Op: api.TermExp, Data: []byte{}, Kids: []api.Term{}}},
		{{Op: api.TermHash, Data: []byte{}, Kids: []api.Term{}}, {Op: api.TermHash}},
		{{Op: api.TermAtom, Num: 5, Data: []byte{}, Kids: []api.Term{}}, atom(5)},
		{with(api.TermEnc, one, ""), {Op: api.TermEnc, Kids: []api.Term{one}}},
	} {
		n, e := v.Intern(c[0])
		if m, f := v.Intern(c[1]); m != n || e != api.OK || f != api.OK {
			t.Error(c, n, m, e, f)
		}
		if m, is := v.Find(c[1]); m != n || !is {
			t.Error(c, m, is)
		}
	}
}

// wrongTerms are terms that are not right.
func wrongTerms() []api.Term {
	return []api.Term{
		{}, {Op: 8}, {Op: -1}, {Op: math.MaxInt}, {Op: math.MinInt, Kids: []api.Term{one}},
		atom(-1), atom(1<<40 + 1), atom(math.MinInt64), atom(math.MaxInt64),
		{Op: api.TermAtom, Num: 1, Data: []byte("a")},
		{Op: api.TermAtom, Num: 1, Kids: []api.Term{one}},
		{Op: api.TermPub}, {Op: api.TermPub, Num: 1, Kids: []api.Term{one}},
		{Op: api.TermPub, Kids: []api.Term{one, two}},
		{Op: api.TermPub, Kids: []api.Term{one}, Data: []byte("a")},
		{Op: api.TermSign, Data: []byte("a")}, {Op: api.TermEnc, Kids: []api.Term{one, one}}, {Op: api.TermKdf, Num: 1, Kids: []api.Term{one}},
		with(api.TermSign, one, long+"x"), with(api.TermEnc, one, long+"x"), with(api.TermKdf, one, long+"x"), hash(long + "x"),
		{Op: api.TermHash, Num: 1}, {Op: api.TermHash, Kids: []api.Term{one}},
		exp(two, one), exp(one, one, one, one, one), {Op: api.TermExp, Num: 1}, {Op: api.TermExp, Data: []byte("a")},
		exp(exp(), one), exp(exp(one), exp()),
		pub(api.Term{}), exp(one, api.Term{Op: 8}), exp(one, exp(two, one)), pub(pub(pub(atom(-1)))),
		within(16, api.TermPub, one), within(16, api.TermExp, exp()), within(16, api.TermKdf, hash("a")), within(1<<16-1, api.TermExp, one),
	}
}

// P6.1, V1: wrong terms: none is put in, nor is any of its kids; none is found, even where its kids, and near ones, are there.
func TestWrongTerms(t *testing.T) {
	for i, x := range wrongTerms() {
		v := vault.New()
		if n, e := v.Intern(x); n != -1 || e != api.ErrTerm || v.Len() != 0 {
			t.Errorf("%d: %d %v, then %d terms", i, n, e, v.Len())
		}
	}
	v, m := vault.New(), &told{}
	for _, x := range append(unlike(), exp(one, two), exp(one, one, one, one), within(15, api.TermPub, one), within(15, api.TermExp, exp()), within(15, api.TermKdf, hash("a"))) {
		put(t, v, m, x)
	}
	for i, x := range wrongTerms() {
		if n, is := v.Find(x); n != -1 || is {
			t.Errorf("%d: found as %d", i, n)
		}
		if n, e := v.Intern(x); n != -1 || e != api.ErrTerm {
			t.Errorf("%d: %d %v", i, n, e)
		}
	}
	hold(t, v, m)
}

// P1: terms that have themselves among their kids.
func TestTermsInThemselves(t *testing.T) {
	v := vault.New()
	v.Intern(exp())
	for op := api.TermOp(0); op <= 8; op++ {
		for n := 1; n < 6; n++ {
			kids := make([]api.Term, n)
			for i := range kids {
				kids[i] = api.Term{Op: op, Kids: kids}
			}
			if n, is := v.Find(kids[0]); n != -1 || is {
				t.Error(op, n, is)
			}
			if n, e := v.Intern(kids[0]); n != -1 || e != api.ErrTerm || v.Len() != 1 {
				t.Error(op, n, e, v.Len())
			}
		}
	}
}

// filled is a vault of so many atoms, from 1000 on.
func filled(t *testing.T, n int) (*vault.Vault, *told) {
	t.Helper()
	v, m := vault.New(), &told{}
	for i := range n {
		x := atom(int64(1000 + i))
		if got, e := v.Intern(x); got != i || e != api.OK {
			t.Fatal(i, got, e)
		}
		m.list = append(m.list, x)
	}
	return v, m
}

// P6.1, V1: no more than 4096 terms, and a term counts with all that lies in it, as often as it lies there, even what is there already.
func TestRoom(t *testing.T) {
	first := atom(1000)
	for i, c := range []struct {
		there int
		x     api.Term
		e     api.Errno
	}{
		{4095, one, api.OK},
		{4095, hash(long), api.OK},
		{4095, exp(), api.OK},
		{4095, atom(5094), api.OK},
		{4095, atom(5095), api.OK},
		{4095, pub(first), api.ErrTooMany},
		{4095, exp(one), api.ErrTooMany},
		{4094, pub(first), api.OK},
		{4094, pub(one), api.OK},
		{4094, exp(first, first), api.ErrTooMany},
		{4094, exp(first, atom(1001)), api.ErrTooMany},
		{4093, exp(first, first), api.OK},
		{4093, exp(one, two), api.OK},
		{4093, pub(exp(first, first)), api.ErrTooMany},
		{4093, exp(one, two, three), api.ErrTooMany},
		{4092, exp(one, two, three), api.OK},
		{4092, exp(first, first, first), api.OK},
		{4091, within(4, api.TermPub, first), api.OK},
		{4092, within(4, api.TermPub, first), api.ErrTooMany},
		{4096, atom(1000), api.OK},
		{4096, atom(5095), api.OK},
		{4096, one, api.ErrTooMany},
		{4096, exp(), api.ErrTooMany},
		{4096, pub(first), api.ErrTooMany},
		{4096, api.Term{}, api.ErrTerm},
		{4096, exp(two, one), api.ErrTerm},
		{4096, pub(pub(atom(-1))), api.ErrTerm},
	} {
		v, m := filled(t, c.there)
		if n, e := put(t, v, m, c.x); e != c.e {
			t.Errorf("%d: %d %v, not %v", i, n, e, c.e)
		}
	}
	v, m := filled(t, 4096)
	hold(t, v, m)
	for range 3 { // an error has changed nothing
		put(t, v, m, pub(one))
		put(t, v, m, one)
	}
	hold(t, v, m)
	// What did not fit as a whole may still fit in parts.
	v, m = filled(t, 4093)
	for _, x := range []api.Term{pub(exp(first, first)), first, exp(first, first), pub(exp(first, first)), pub(first), one, two} {
		put(t, v, m, x)
	}
	if v.Len() != 4096 {
		t.Error(v.Len())
	}
	hold(t, v, m)
}

// doubled is a power of two powers of two powers, and so on: with deep of them within one another it has a size of 2 to the power of deep + 1, less 1.
func doubled(deep int) api.Term {
	x := exp()
	for range deep {
		x = exp(x, x)
	}
	return x
}

// P6.1, V1: great terms: the size counts, and not how many unlike terms there are.
func TestGreatTerms(t *testing.T) {
	v, m := vault.New(), &told{}
	for _, deep := range []int{12, 13, 15} {
		if _, e := put(t, v, m, doubled(deep)); e != api.ErrTooMany {
			t.Error(deep, e)
		}
	}
	if n, e := put(t, v, m, doubled(11)); n != 11 || e != api.OK {
		t.Error(n, e)
	}
	for _, deep := range []int{12, 15} { // its kids are there, and yet it is too great
		if _, e := put(t, v, m, doubled(deep)); e != api.ErrTooMany {
			t.Error(deep, e)
		}
	}
	hold(t, v, m)
	deepest := within(15, api.TermKdf, one)
	if n, e := put(t, v, m, deepest); n != 12+15 || e != api.OK {
		t.Error(n, e)
	}
	if n, is := v.Find(within(14, api.TermKdf, one)); n != 12+14 || !is {
		t.Error(n, is)
	}
	hold(t, v, m)
	wide := exp(slices.Repeat([]api.Term{one}, 1<<18)...)
	fat := hash(strings.Repeat("x", 1<<24))
	for _, x := range []api.Term{wide, fat, pub(wide), exp(one, fat)} {
		if n, e := v.Intern(x); n != -1 || e != api.ErrTerm {
			t.Error(n, e)
		}
		if n, is := v.Find(x); n != -1 || is {
			t.Error(n, is)
		}
	}
	hold(t, v, m)
}

// draw is a right term that is at most so deep.
func draw(next func(int) int, deep int) api.Term {
	data := strings.Repeat("Ann", next(2)) + strings.Repeat(string([]byte{byte(next(4))}), next(3))
	if deep == 0 || next(4) == 0 {
		switch next(3) {
		case 0:
			return hash(data)
		case 1:
			return exp()
		}
		return atom(int64(next(20)) << next(36))
	}
	if op := api.TermOp(next(5)) + api.TermPub; op == api.TermPub {
		return pub(draw(next, deep-1))
	} else if op != api.TermHash && op <= api.TermKdf {
		return with(op, draw(next, deep-1), data)
	}
	var kids []api.Term
	for range next(5) {
		kids = append(kids, draw(next, deep-1))
	}
	return terms.Norm(exp(kids...))
}

// spoil changes a term somewhere within it.
func spoil(next func(int) int, x api.Term) api.Term {
	x.Kids = slices.Clone(x.Kids)
	if len(x.Kids) > 0 && next(3) > 0 {
		at := next(len(x.Kids))
		x.Kids[at] = spoil(next, x.Kids[at])
		return x
	}
	switch next(6) {
	case 0:
		x.Op += api.TermOp(next(3) - 1)
	case 1:
		x.Num += int64(next(3) - 1)
	case 2:
		x.Data = append(bytes.Clone(x.Data), byte(next(0x100)))
	case 3:
		x.Kids = append(x.Kids, atom(int64(next(3))))
	case 4:
		x.Kids = x.Kids[:next(len(x.Kids)+1)]
	case 5:
		slices.Reverse(x.Kids)
	}
	return x
}

// P6.1, P6.2: drawn terms, right and wrong, till there is no room, and on.
func TestDrawnTerms(t *testing.T) {
	next := drawn()
	for range 3 {
		v, m := vault.New(), &told{}
		seen := map[api.Errno]int{}
		before := 0
		for range 4000 {
			x := draw(next, next(6))
			for range 2 {
				_, e := put(t, v, m, x)
				seen[e]++
				if v.Len() < before || v.Len() > 4096 {
					t.Fatal("so many terms:", v.Len(), "behind", before)
				}
				before = v.Len()
				x = spoil(next, x)
			}
		}
		hold(t, v, m)
		if seen[api.OK] < 100 || seen[api.ErrTerm] < 100 || seen[api.ErrTooMany] < 100 || len(seen) != 3 {
			t.Error("too few of one kind", seen)
		}
	}
}

// P3: what comes hangs on the calls ahead of it alone: two vaults that were asked the same have the same numbers.
func TestTwoVaults(t *testing.T) {
	next := drawn()
	v, w := vault.New(), vault.New()
	for range 1500 {
		x := draw(next, next(5))
		n, e := v.Intern(x)
		v.Find(draw(next, 2)) // asking changes nothing
		v.Term(next(100))
		if m, f := w.Intern(terms.Norm(x)); m != n || f != e || v.Len() != w.Len() {
			t.Fatal(x, n, e, m, f)
		}
	}
	for n := range v.Len() {
		a, _ := v.Term(n)
		b, is := w.Term(n)
		if !is || !alike(a, b) {
			t.Fatal(n, a, b)
		}
	}
}

// spare is a term of which each list has spare room, with something in it.
func spare(x api.Term) api.Term {
	data := append(make([]byte, 0, len(x.Data)+8), x.Data...)
	copy(data[len(data):cap(data)], "sparespare")
	kids := make([]api.Term, 0, len(x.Kids)+4)
	for _, kid := range x.Kids {
		kids = append(kids, spare(kid))
	}
	for i := len(kids); i < cap(kids); i++ {
		kids[:cap(kids)][i] = atom(int64(77 + i))
	}
	x.Data, x.Kids = data, kids
	return x
}

// whole is a term with the spare room of each list.
func whole(x api.Term) api.Term {
	var kids []api.Term
	for _, kid := range x.Kids[:cap(x.Kids)] {
		kids = append(kids, whole(kid))
	}
	return api.Term{Op: x.Op, Num: x.Num, Data: bytes.Clone(x.Data[:cap(x.Data)]), Kids: kids}
}

// lists are all lists of a term, with their spare room.
func lists(x api.Term) ([][]byte, [][]api.Term) {
	data, kids := [][]byte{x.Data[:cap(x.Data)]}, [][]api.Term{x.Kids[:cap(x.Kids)]}
	for _, kid := range x.Kids {
		d, k := lists(kid)
		data, kids = append(data, d...), append(kids, k...)
	}
	return data, kids
}

// apart: do no two lists of these terms share any room?
func apart(some ...api.Term) bool {
	bytesSeen, kidsSeen := map[*byte]bool{}, map[*api.Term]bool{}
	for _, x := range some {
		data, kids := lists(x)
		for _, l := range data {
			for i := range l {
				if bytesSeen[&l[i]] {
					return false
				}
				bytesSeen[&l[i]] = true
			}
		}
		for _, l := range kids {
			for i := range l {
				if kidsSeen[&l[i]] {
					return false
				}
				kidsSeen[&l[i]] = true
			}
		}
	}
	return true
}

// scribble spoils all of a term's lists.
func scribble(x api.Term) {
	data, kids := lists(x)
	for _, l := range data {
		for i := range l {
			l[i] ^= 0x55
		}
	}
	for _, l := range kids {
		for i := range l {
			l[i] = api.Term{Op: 9}
		}
	}
}

// P3, P6.2: what is handed in is neither changed nor kept, and what comes out is the vault's no more: a number never has another term.
func TestTermsAreTheVaultsOwn(t *testing.T) {
	next := drawn()
	v, m := vault.New(), &told{}
	for range 300 {
		x := spare(draw(next, next(5)))
		before := whole(x)
		v.Find(x)
		n, e := v.Intern(x)
		if want, wantE := m.intern(x); n != want || e != wantE {
			t.Fatal(n, e, want, wantE)
		}
		if !alike(whole(x), before) {
			t.Fatal("what was handed in has changed")
		}
		a, _ := v.Term(n)
		b, _ := v.Term(n)
		if !apart(x, a, b) {
			t.Fatal("lists share room")
		}
		scribble(x)
		scribble(a)
		if c, is := v.Term(n); !is || !alike(b, c) || !alike(b, m.list[n]) {
			t.Fatal("the vault's term has changed:", c)
		}
	}
	hold(t, v, m)
	// Lists that are handed in may be one: those that come out are not.
	data := []byte("abc")
	h := api.Term{Op: api.TermHash, Data: data}
	n, e := v.Intern(exp(api.Term{Op: api.TermEnc, Data: data, Kids: []api.Term{h}}, h, h))
	x, is := v.Term(n)
	if e != api.OK || !is || !apart(x, h) {
		t.Error(n, e, is, "lists share room")
	}
}

// numbers are some that have bytes, at all edges.
func numbers() []int {
	all := []int{0, 1, 2, 127, 128, 255, 256, 257, 258, 4095, 4096, 65535, 65536, 1<<48 - 1, 1<<48 - 2, 0x010203040506, 0x0408c15e0000, 0xc15ec15ec15e, 0xffffffff0000}
	for bit := range 48 {
		all = append(all, 1<<bit, 1<<bit-1, 1<<48-1-1<<bit)
	}
	return all
}

// wrongNumbers are some that have none.
var wrongNumbers = []int{-1, -2, 1 << 48, 1<<48 + 1, 1<<48 + 258, 1 << 49, 1 << 62, 1<<62 + 5, -1 << 48, 5 - 1<<48, math.MaxInt, math.MinInt, math.MinInt + 7}

// bytesTold are a number's bytes, written in hexadecimal and read from it.
func bytesTold(n int) []byte {
	digits := strconv.FormatInt(int64(n), 16)
	b, err := hex.DecodeString("c15e" + strings.Repeat("0", 12-len(digits)) + digits)
	if err != nil {
		panic(err)
	}
	return b
}

func mentionTold(n int) string { return "\x04\x08" + string(bytesTold(n)) }

// P6.1, V2: a number's bytes, and back.
func TestBytesAndNumber(t *testing.T) {
	for _, n := range numbers() {
		b := vault.Bytes(n)
		if !bytes.Equal(b, bytesTold(n)) {
			t.Errorf("%d: %x", n, b)
		}
		if got, is := vault.Number(b); got != n || !is {
			t.Errorf("%x: %d %v, not %d", b, got, is, n)
		}
		if m := vault.Mention(n); string(m) != mentionTold(n) {
			t.Errorf("%d: %x", n, m)
		}
	}
	for _, n := range wrongNumbers {
		if b := vault.Bytes(n); b != nil {
			t.Errorf("%d: %x", n, b)
		}
		if b := vault.Mention(n); b != nil {
			t.Errorf("%d: %x", n, b)
		}
	}
	if b := vault.Bytes(258); string(b) != "\xc1\x5e\x00\x00\x00\x00\x01\x02" {
		t.Errorf("%x", b)
	}
	if b := vault.Mention(258); string(b) != "\x04\x08\xc1\x5e\x00\x00\x00\x00\x01\x02" {
		t.Errorf("%x", b)
	}
}

// P6.1, V2: bytes that are no number's.
func TestNumberOfOtherBytes(t *testing.T) {
	good := bytesTold(258)
	wrong := [][]byte{nil, {}, append([]byte{0}, good...), append(bytes.Clone(good), 0), []byte(mentionTold(258)), append(bytes.Clone(good), good...), make([]byte, 8), bytes.Repeat([]byte{0xff}, 8), make([]byte, 1<<20)}
	for n := range good {
		wrong = append(wrong, good[:n], good[n+1:])
	}
	for _, b := range wrong {
		if n, is := vault.Number(b); n != -1 || is {
			t.Errorf("%.20x: %d %v", b, n, is)
		}
	}
	for at := range good {
		for x := range 0x100 {
			b := bytes.Clone(good)
			b[at] = byte(x)
			want, wantIs := -1, false
			if at > 1 {
				want, wantIs = 258&^(0xff<<(8*(7-at)))|x<<(8*(7-at)), true
			} else if x == int(good[at]) {
				want, wantIs = 258, true
			}
			if n, is := vault.Number(b); n != want || is != wantIs {
				t.Fatalf("%x: %d %v, not %d %v", b, n, is, want, wantIs)
			}
		}
	}
	// The length is that of the list, not of its room.
	roomy := append(make([]byte, 0, 16), good...)
	if n, is := vault.Number(roomy[:7]); n != -1 || is {
		t.Error(n, is)
	}
	if n, is := vault.Number(roomy); n != 258 || !is {
		t.Error(n, is)
	}
}

// mentionsTold are the numbers below below that are mentioned: each ten bytes are held against it.
func mentionsTold(b []byte, below int) []int {
	found := map[int]int{}
	for at := range b {
		if digits, is := strings.CutPrefix(hex.EncodeToString(b[at:min(at+10, len(b))]), "0408c15e"); is && len(digits) == 12 {
			n, err := strconv.ParseInt(digits, 16, 64)
			if err == nil && n < int64(below) {
				found[int(n)]++
			}
		}
	}
	return slices.Sorted(maps.Keys(found))
}

// holdMentions: what b mentions is as told, below each of some bounds.
func holdMentions(t *testing.T, b []byte, bounds ...int) {
	t.Helper()
	for _, below := range append(bounds, math.MinInt, -1, 0, 1, 5, 6, 4096, 1<<48-1, 1<<48, math.MaxInt) {
		if got, want := vault.Mentions(b, below), mentionsTold(b, below); !slices.Equal(got, want) {
			t.Fatalf("%.60x below %d: %v, not %v", b, below, got, want)
		}
	}
}

// P6.1, V2: what is mentioned: rising, each once, below the bound.
func TestMentions(t *testing.T) {
	m := mentionTold
	for i, c := range []struct {
		b     string
		below int
		want  []int
	}{
		{"", 10, nil},
		{m(5), 6, []int{5}},
		{m(5), 5, nil},
		{m(5), 4, nil},
		{m(0), 1, []int{0}},
		{m(0), 0, nil},
		{m(0), -1, nil},
		{m(0), math.MinInt, nil},
		{m(1<<48 - 1), 1 << 48, []int{1<<48 - 1}},
		{m(1<<48 - 1), 1<<48 - 1, nil},
		{m(1<<48 - 1), math.MaxInt, []int{1<<48 - 1}},
		{m(5) + m(3), 6, []int{3, 5}},
		{m(3) + m(5), 6, []int{3, 5}},
		{m(5) + m(3) + m(5) + m(5), 6, []int{3, 5}},
		{m(5) + m(3), 5, []int{3}},
		{m(258) + m(3) + m(65536), 1 << 20, []int{3, 258, 65536}},
		{"x" + m(5), 6, []int{5}},
		{m(5) + "x", 6, []int{5}},
		{"\x04" + m(5), 6, []int{5}},
		{"\x04\x08" + m(5), 6, []int{5}},
		{"\x04\x08\xc1" + m(5), 6, []int{5}},
		{"\x04\x08\xc1\x5e" + m(5), 6, []int{5}},
		{"\x04\x08\xc1\x5e" + m(5), 1 << 48, []int{5, 0x0408c15e0000}},
		{"\x04\x08\xc1\x5e\x00\x00" + m(5), 1 << 48, []int{5, 0x00000408c15e}},
		{"\x04\x08\xc1\x5e\x00\x00\x00\x00\x00" + m(5), 1 << 48, []int{4, 5}},
		{"\x04\x08\xc1\x5e\x04\x08\xc1\x5e" + m(5), 1 << 48, []int{5, 0x0408c15e0000, 0x0408c15e0408}},
		{string(bytesTold(5)), 6, nil},
		{"\x08" + string(bytesTold(5)), 6, nil},
		{"\x04" + string(bytesTold(5)), 6, nil},
		{"\x04\x09" + string(bytesTold(5)) + "x", 6, nil},
		{"\x04\x07" + string(bytesTold(5)), 6, nil},
		{"\x05\x08" + string(bytesTold(5)), 6, nil},
		{"\x24\x08" + string(bytesTold(5)), 6, nil},
		{"\x04\x81\x08" + string(bytesTold(5)), 6, nil},
		{m(5)[:9], 6, nil},
		{m(5)[1:], 6, nil},
		{m(5)[:9] + m(3)[:9], 1 << 48, []int{4}},
		{m(0)[:9] + "\x05" + "\x00", 6, []int{5}},
	} {
		if got := vault.Mentions([]byte(c.b), c.below); !slices.Equal(got, c.want) {
			t.Errorf("%d: %v, not %v", i, got, c.want)
		}
		holdMentions(t, []byte(c.b), c.below)
	}
	if got := vault.Mentions(nil, 10); len(got) != 0 {
		t.Error(got)
	}
}

// P6.1, V2: a mention with each byte changed, each one left out, and one put in.
func TestNearMentions(t *testing.T) {
	for _, n := range []int{0, 5, 258, 0x0408c15e0408} {
		for at := range 10 {
			for x := range 0x100 {
				b := []byte(mentionTold(n))
				b[at] = byte(x)
				holdMentions(t, b, n, n+1)
				holdMentions(t, slices.Insert([]byte(mentionTold(n)), at, byte(x)), n, n+1)
			}
			holdMentions(t, slices.Delete([]byte(mentionTold(n)), at, at+1), n, n+1)
			holdMentions(t, []byte(mentionTold(n)[at:]+mentionTold(n)), n, n+1)
		}
	}
}

// P6.1, V2: all numbers' mentions in all orders, and drawn bytes of pieces of them.
func TestDrawnMentions(t *testing.T) {
	next := drawn()
	var all []byte
	for _, n := range numbers() {
		all = slices.Concat([]byte(mentionTold(n)), all, []byte(mentionTold(n)))
	}
	holdMentions(t, all, numbers()...)
	some := 0
	for range 20000 {
		var b []byte
		for range next(8) {
			switch n := next(7); next(4) {
			case 0:
				b = append(b, mentionTold(n)...)
			case 1:
				b = append(b, mentionTold(n << next(46))[:next(11)]...)
			case 2:
				b = append(b, "\x04\x08\xc1\x5e\x00\x00"[:next(7)]...)
			case 3:
				b = append(b, bytesTold(n)[next(8):]...)
			}
		}
		holdMentions(t, b, next(8))
		some += len(mentionsTold(b, 7))
	}
	if some < 10000 {
		t.Error("too few", some)
	}
}

// P1, V2: very many bytes, all mentions within one another.
func TestManyMentions(t *testing.T) {
	b := bytes.Repeat([]byte("\x04\x08\xc1\x5e"), 1<<18)
	if got := vault.Mentions(b, math.MaxInt); !slices.Equal(got, []int{0x0408c15e0408}) {
		t.Error(len(got))
	}
	b = nil
	for n := 1 << 16; n > 0; n-- {
		b = append(b, mentionTold(n)...)
	}
	got := vault.Mentions(b, 1<<16)
	if len(got) != 1<<16-1 || got[0] != 1 || got[len(got)-1] != 1<<16-1 || !slices.IsSorted(got) {
		t.Error(len(got))
	}
}

// P3: bytes that come out are new, and those that are handed in stay.
func TestBytesAreNew(t *testing.T) {
	for _, make1 := range []func() []byte{func() []byte { return vault.Bytes(258) }, func() []byte { return vault.Mention(258) }} {
		a, b := make1(), make1()
		want := bytes.Clone(b)
		for i := range a[:cap(a)] {
			a[:cap(a)][i] ^= 0x55
		}
		if !bytes.Equal(b, want) || !bytes.Equal(make1(), want) {
			t.Errorf("%x, not %x", b, want)
		}
	}
	room := append(make([]byte, 0, 64), mentionTold(5)+mentionTold(3)...)
	copy(room[20:40], mentionTold(2)+mentionTold(1))
	before := bytes.Clone(room[:64])
	a := vault.Mentions(room, 9)
	b := vault.Mentions(room, 9)
	vault.Number(room[2:10])
	for i := range a[:cap(a)] {
		a[:cap(a)][i] = 77
	}
	if !slices.Equal(b, []int{3, 5}) || !bytes.Equal(room[:64], before) {
		t.Errorf("%v, %x", b, room[:64])
	}
}
