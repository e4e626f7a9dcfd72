package derive_test

import (
	"bytes"
	"encoding/binary"
	"math"
	"slices"
	"strings"
	"testing"

	"warder/api"
	"warder/derive"
	"warder/vault"
)

// drawn tells numbers that look drawn, and are the same each time.
func drawn() func(below int) int {
	state := uint64(1)
	return func(below int) int {
		state = state*6364136223846793005 + 1442695040888963407
		return int(state>>33) % below
	}
}

func atom(num int64) api.Term { return api.Term{Op: api.TermAtom, Num: num} }

func pub(key api.Term) api.Term { return api.Term{Op: api.TermPub, Kids: []api.Term{key}} }

func exp(kids ...api.Term) api.Term { return api.Term{Op: api.TermExp, Kids: kids} }

func hash(data string) api.Term { return api.Term{Op: api.TermHash, Data: []byte(data)} }

// with is a term of a key and of data.
func with(op api.TermOp, key api.Term, data string) api.Term {
	return api.Term{Op: op, Data: []byte(data), Kids: []api.Term{key}}
}

func enc(key api.Term, data string) api.Term { return with(api.TermEnc, key, data) }

// within is a term that lies in so many others.
func within(outer int, op api.TermOp, t api.Term) api.Term {
	for range outer {
		t = api.Term{Op: op, Kids: []api.Term{t}}
	}
	return t
}

// mention is how a number stands in bytes, written without the vault's help.
func mention(n int) string {
	b := binary.BigEndian.AppendUint64([]byte{4, 8}, uint64(n))
	b[2], b[3] = 0xc1, 0x5e
	return string(b)
}

func mentions(some ...int) string {
	s := ""
	for _, n := range some {
		s += mention(n)
	}
	return s
}

var (
	one, two, three, four = atom(1), atom(2), atom(3), atom(4)
	keyed                 = []api.TermOp{api.TermSign, api.TermEnc, api.TermKdf} // those that have a key and data
)

// filled is a vault of some terms, each of which is new, and has no kid that is new: they have the numbers from 0 on.
func filled(t *testing.T, some ...api.Term) *vault.Vault {
	t.Helper()
	v := vault.New()
	for i, x := range some {
		if n, e := v.Intern(x); n != i || e != api.OK || v.Len() != i+1 {
			t.Fatalf("%d: %d %v, then %d terms", i, n, e, v.Len())
		}
	}
	return v
}

// toldOf is the closure as the chapter tells it: all terms are held against its words, again and again.
func toldOf(v *vault.Vault, known []int) []int {
	all := make([]api.Term, v.Len())
	for n := range all {
		all[n], _ = v.Term(n)
	}
	had := map[int]bool{}
	for _, n := range known {
		if n >= 0 && n < len(all) {
			had[n] = true
		}
	}
	for was := -1; was < len(had); {
		was = len(had)
		for n := range all {
			if toldHad(v, all, had, n) {
				had[n] = true
			}
		}
	}
	var out []int
	for n := range all {
		if had[n] {
			out = append(out, n)
		}
	}
	return out
}

// toldHad: is a number had, if some others are?
func toldHad(v *vault.Vault, all []api.Term, had map[int]bool, n int) bool {
	t := all[n]
	kidHad := func(kid api.Term) bool {
		k, is := v.Find(kid)
		return is && had[k]
	}
	kids := true
	for _, kid := range t.Kids {
		kids = kids && kidHad(kid)
	}
	said := true
	for m := range n {
		said = said && (had[m] || !bytes.Contains(t.Data, []byte(mention(m))))
	}
	if t.Op != api.TermAtom && kids && said {
		return true
	}
	for m, x := range all {
		if !had[m] {
			continue
		}
		if x.Op == api.TermEnc && n < m && kidHad(x.Kids[0]) && bytes.Contains(x.Data, []byte(mention(n))) {
			return true
		}
		if x.Op == api.TermExp && t.Op == api.TermExp && toldPower(v, had, t, x) {
			return true
		}
	}
	return false
}

// toldPower: is a power had, if another one is?
func toldPower(v *vault.Vault, had map[int]bool, t, of api.Term) bool {
	count := func(x api.Term, n int) int { // how often a number is among a term's kids
		c := 0
		for _, kid := range x.Kids {
			if k, _ := v.Find(kid); k == n {
				c++
			}
		}
		return c
	}
	for n := range v.Len() {
		if count(of, n) > count(t, n) || count(t, n) > count(of, n) && !had[n] {
			return false
		}
	}
	return true
}

// hold: the closure is what is told, and so is what can be written of it.
func hold(t *testing.T, v *vault.Vault, known ...int) []int {
	t.Helper()
	want, is := toldOf(v, known), derive.Closure(v, known)
	if !slices.Equal(is, want) {
		t.Fatalf("of %v: %v, not %v", known, is, want)
	}
	for n := range v.Len() {
		if can := derive.Can(v, known, []byte(mention(n))); can != slices.Contains(want, n) {
			t.Fatalf("of %v: %d can be written: %v", known, n, can)
		}
	}
	return is
}

// leads: of known the closure is want.
func leads(t *testing.T, v *vault.Vault, known []int, want ...int) {
	t.Helper()
	if is := hold(t, v, known...); !slices.Equal(is, want) {
		t.Errorf("of %v: %v, not %v", known, is, want)
	}
}

// P8.1, D1: the chapter's examples.
func TestExamples(t *testing.T) {
	v := filled(t, one, two, enc(one, mention(1)))
	leads(t, v, []int{0, 2}, 0, 1, 2)
	v = filled(t, one, two, exp(one), exp(two), exp(one, two))
	leads(t, v, []int{2, 1}, 1, 2, 3, 4)
}

// P8.1: atoms are had only if they are known; nothing is had of nothing, but what needs nothing.
func TestAtoms(t *testing.T) {
	v := filled(t, one, two, three)
	leads(t, v, nil)
	leads(t, v, []int{})
	leads(t, v, []int{1}, 1)
	leads(t, v, []int{2, 0}, 0, 2)
	v = filled(t, one, hash(""), pub(one), hash("a"), exp(), exp(one), hash(mention(0)), hash(mention(1)))
	leads(t, v, nil, 1, 3, 4, 7)
	leads(t, v, []int{0}, 0, 1, 2, 3, 4, 5, 6, 7)
	leads(t, vault.New(), nil)
	leads(t, vault.New(), []int{0, 1})
}

// P8.1: what is of a key is had with that key alone; nothing is had of it but what it seals.
func TestOfKeys(t *testing.T) {
	some := []api.Term{one, two, pub(one), pub(two)}
	for _, op := range keyed {
		some = append(some, with(op, one, ""), with(op, two, ""), with(op, one, "a"), with(op, pub(one), "a"))
	}
	v := filled(t, some...)
	leads(t, v, []int{0}, 0, 2, 4, 6, 7, 8, 10, 11, 12, 14, 15)
	leads(t, v, []int{1}, 1, 3, 5, 9, 13)
	leads(t, v, []int{2}, 2, 7, 11, 15) // a public half is a key too
	for _, n := range []int{3, 4, 5, 6, 7, 8, 12, 15} {
		leads(t, v, []int{n}, n)
	}
}

// P8.1: what has data is had if all is that they mention below it, and the key, each of them.
func TestOfData(t *testing.T) {
	some := []api.Term{one, two, three}
	for _, op := range keyed {
		some = append(some, with(op, one, "a"+mention(1)+"b"), with(op, one, mentions(1, 2, 1)), with(op, one, mention(0)))
	}
	some = append(some, hash(mention(1)), hash(mentions(2, 1)))
	v := filled(t, some...)
	leads(t, v, []int{0}, 0, 5, 8, 11)
	leads(t, v, []int{0, 1}, 0, 1, 3, 5, 6, 8, 9, 11, 12)
	leads(t, v, []int{0, 2}, 0, 2, 5, 8, 11)
	leads(t, v, []int{1}, 1, 12)
	leads(t, v, []int{2}, 2)
	leads(t, v, []int{1, 2}, 1, 2, 12, 13)
	leads(t, v, []int{2, 1, 0}, 0, 1, 2, 3, 4, 5, 6, 7, 8, 9, 10, 11, 12, 13)
}

// P8.1: what data mention that is not below the term itself is not asked for; nor is what is no mention.
func TestOfDataNotBelow(t *testing.T) {
	for _, op := range keyed {
		for _, c := range []struct {
			data string
			had  bool // of the key alone
		}{
			{mention(2), true}, {mention(3), true}, {mention(4), true}, {mention(1 << 20), true}, {mention(1<<48 - 1), true},
			{mention(1), false}, {mentions(3, 1), false}, {mentions(1, 4), false}, {mentions(2, 0), true},
			{mention(1)[2:], true}, {mention(1)[:9], true}, {mention(1)[1:], true},
			{"\x04" + mention(1), false}, {"\x04\x08" + mention(1), false}, {mention(5)[:9] + mention(1), false}, {mention(1)[:9] + "\x02", true},
			{"\x04\x08\xc1\x5f\x00\x00\x00\x00\x00\x01", true}, {"\x04\x09\xc1\x5e\x00\x00\x00\x00\x00\x01", true}, {"\x03\x08\xc1\x5e\x00\x00\x00\x00\x00\x01", true},
			{"\x04\x08\xc1\x5e\x00\x00\x00\x01\x00\x01", true}, {"\x04\x08\xc1\x5e\x04\x08\xc1\x5e\x00\x00\x00\x00\x00\x01", false},
			{strings.Repeat("x", 8182) + mention(1), false}, {mention(1) + strings.Repeat("x", 8182), false},
		} {
			v := filled(t, one, two, with(op, one, c.data), three)
			if had := slices.Contains(hold(t, v, 0), 2); had != c.had {
				t.Errorf("%d %.20q: %v", op, c.data, had)
			}
			leads(t, v, []int{0, 1}, 0, 1, 2)
			if op == api.TermSign {
				v = filled(t, one, two, hash(c.data), three)
				if had := slices.Contains(hold(t, v, 0), 2); had != c.had {
					t.Errorf("hash of %.20q: %v", c.data, had)
				}
			}
		}
	}
}

// P8.1: powers are had of a power of some of their kids and of all others, or of all; never of a power of more.
func TestPowers(t *testing.T) {
	v := filled(t, one, two, three, exp(one), exp(two), exp(one, two), exp(one, two, three), exp(one, one), exp(one, one, two), exp(three, three))
	for _, c := range []struct{ known, want []int }{
		{[]int{0}, []int{0, 3, 7}},
		{[]int{1}, []int{1, 4}},
		{[]int{2}, []int{2, 9}},
		{[]int{3, 4}, []int{3, 4}},
		{[]int{3, 1}, []int{1, 3, 4, 5}},
		{[]int{4, 0}, []int{0, 3, 4, 5, 7, 8}},
		{[]int{3, 0}, []int{0, 3, 7}},
		{[]int{5, 1}, []int{1, 4, 5}},    // a power is not gone back from
		{[]int{5, 2}, []int{2, 5, 6, 9}}, // of two, by the third one
		{[]int{5, 0}, []int{0, 3, 5, 7, 8}},
		{[]int{7, 1}, []int{1, 4, 7, 8}},
		{[]int{7, 0}, []int{0, 3, 7}},
		{[]int{8, 0}, []int{0, 3, 7, 8}},
		{[]int{8, 1}, []int{1, 4, 8}},
		{[]int{3, 2}, []int{2, 3, 9}}, // the second one lacks
		{[]int{3, 1, 2}, []int{1, 2, 3, 4, 5, 6, 9}},
		{[]int{6, 7, 8, 9}, []int{6, 7, 8, 9}},
		{[]int{0, 1, 2}, []int{0, 1, 2, 3, 4, 5, 6, 7, 8, 9}},
	} {
		leads(t, v, c.known, c.want...)
	}
}

// P8.1: each power of a power's kids, as often as they are there at most, whatever its number is.
func TestPowersOfPowers(t *testing.T) {
	for _, c := range []struct {
		t, of api.Term
		known []int // of atoms 1 to 4, which have the numbers 0 to 3
		had   bool
	}{
		{exp(one, one), exp(one), nil, false},
		{exp(one, one), exp(one), []int{0}, true},
		{exp(one, one), exp(one), []int{1}, false},
		{exp(one), exp(one, one), nil, false},
		{exp(one, two), exp(one, one), []int{1}, false},
		{exp(one, two), exp(one, one, two), []int{1}, false},
		{exp(one, one, two), exp(one, two), []int{1}, false},
		{exp(one, one, two), exp(one, two), []int{0}, true},
		{exp(one, one, two), exp(one, two, two), []int{0}, false},
		{exp(one, two, three, four), exp(two, four), []int{0, 2}, true},
		{exp(one, two, three, four), exp(two, four), []int{0}, false},
		{exp(one, two, three, four), exp(two, four), []int{2}, false},
		{exp(one, two, three, four), exp(two, four), []int{1, 3}, false},
		{exp(one, two, three, four), exp(one, two, three), []int{3}, true},
		{exp(one, two, three, four), exp(two, three, four), []int{0}, true},
		{exp(one, two, three, four), exp(four), []int{0, 1, 2}, true},
		{exp(one, two, three, four), exp(four), []int{0, 2}, false},
		{exp(one, two, three, four), exp(), []int{0, 1, 2}, false},
		{exp(one, two, three, four), exp(), []int{3, 2, 1, 0}, true},
		{exp(one, one, one, one), exp(one, one, one), []int{0}, true},
		{exp(one, one, one, one), exp(one, one, one), []int{1, 2, 3}, false},
		{exp(two, two, three, three), exp(two, three), []int{1}, false},
		{exp(two, two, three, three), exp(two, two), []int{2}, true},
		{exp(two, two, three, three), exp(two, two), []int{1}, false},
		{exp(one), exp(), nil, false},
	} {
		for _, last := range []bool{false, true} { // the power that is known, behind the other one, and ahead of it
			some, n, of := []api.Term{one, two, three, four, c.t, c.of}, 4, 5
			if last {
				some[4], some[5], n, of = c.of, c.t, 5, 4
			}
			v := filled(t, some...)
			if had := slices.Contains(hold(t, v, append(c.known, of)...), n); had != c.had {
				t.Errorf("%v of %v and %v: %v", c.t, c.of, c.known, had)
			}
		}
	}
}

// P8.1: a power may be a power's kid, and is none of its power then: it is one exponent.
func TestPowersWithin(t *testing.T) {
	v := filled(t, one, two, exp(one), exp(two), exp(exp(one)), exp(two, exp(one)), exp(one, two))
	leads(t, v, []int{2}, 2, 4)
	leads(t, v, []int{4, 1}, 1, 3, 4, 5)
	leads(t, v, []int{3, 2}, 2, 3, 4, 5)
	leads(t, v, []int{5}, 5)
	leads(t, v, []int{4, 3}, 3, 4)
}

// P8.1: a sealed text that is had is opened with its key, and all that it mentions below it is had then.
func TestOpened(t *testing.T) {
	v := filled(t, one, two, three, enc(one, mentions(2, 1)), four, pub(two))
	leads(t, v, []int{0, 3}, 0, 1, 2, 3, 5)
	leads(t, v, []int{3}, 3)
	leads(t, v, []int{0}, 0) // it isn't there, and can't be made
	leads(t, v, []int{3, 1}, 1, 3, 5)
	leads(t, v, []int{3, 4, 5}, 3, 4, 5)
	for _, c := range []struct {
		data string
		had  bool
	}{
		{mention(1), true}, {"a" + mention(1), true}, {"\x04" + mention(1), true}, {mention(0)[:9] + mention(1), true}, {"\x04\x08\xc1\x5e" + mention(1) + "x", true},
		{strings.Repeat("\x04\x08", 4091) + mention(1), true}, {mentions(0, 2, 3, 1), true},
		{"", false}, {"a", false}, {mention(0), false}, {mention(2), false}, {mention(3), false}, {mention(257), false}, {mention(1 << 32), false},
		{mention(1)[2:], false}, {mention(1)[:9], false}, {mention(1)[1:], false}, {"\x04\x08\xc1\x5d\x00\x00\x00\x00\x00\x01", false}, {"\x05\x08\xc1\x5e\x00\x00\x00\x00\x00\x01", false},
	} {
		v := filled(t, one, two, enc(one, c.data), three)
		if had := slices.Contains(hold(t, v, 0, 2), 1); had != c.had {
			t.Errorf("%.20q: %v", c.data, had)
		}
		for _, op := range []api.TermOp{api.TermSign, api.TermKdf} { // nothing else is opened
			v = filled(t, one, two, with(op, one, c.data), three)
			leads(t, v, []int{0, 2}, 0, 2)
			leads(t, v, []int{2}, 2)
		}
		v = filled(t, one, two, hash(c.data), three)
		if slices.Contains(hold(t, v, 0, 2), 1) {
			t.Errorf("%.20q: a hash was opened", c.data)
		}
	}
}

// P8.1: a sealed text opens nothing that stands behind it, nor itself.
func TestOpenedBelow(t *testing.T) {
	v := filled(t, one, two, enc(one, mentions(4, 2, 3, 1)), three, four)
	leads(t, v, []int{0, 2}, 0, 1, 2)
	leads(t, v, []int{0, 1}, 0, 1, 2)
	leads(t, v, []int{2, 3, 4}, 2, 3, 4)
	v = filled(t, one, two, enc(one, mention(3)), three, enc(one, mention(3)+"b"))
	leads(t, v, []int{0, 2}, 0, 2)
	leads(t, v, []int{0, 4}, 0, 2, 3, 4)
}

// P8.1: a sealed text's key may be anything that is had by all the other ways.
func TestOpenedWithWhatIsMade(t *testing.T) {
	some := []api.Term{one, two, three, four, exp(one), exp(two), exp(one, two), with(api.TermKdf, exp(one, two), "l"), enc(with(api.TermKdf, exp(one, two), "l"), mention(2)), enc(three, mention(3)), enc(four, "a"), enc(hash("h"), mention(1))}
	v := vault.New()
	for _, x := range some {
		if n, e := v.Intern(x); e != api.OK {
			t.Fatal(n, e)
		}
	}
	key, sealed, next, last := 7, 8, 9, 10
	if v.Len() != 13 {
		t.Fatal(v.Len())
	}
	leads(t, v, []int{4, 5, sealed, next}, 4, 5, sealed, next, 11) // who hears both powers, and knows neither exponent
	leads(t, v, []int{4, 1, sealed, next}, 1, 2, 3, 4, 5, 6, key, sealed, next, last, 11, 12)
	leads(t, v, []int{5, 0, sealed, next}, 0, 2, 3, 4, 5, 6, key, sealed, next, last, 11)
	leads(t, v, []int{key, sealed}, 2, key, sealed, 11)
	leads(t, v, []int{key, next}, key, next, 11)
	leads(t, v, []int{12}, 1, 5, 11, 12) // its key is a hash that everybody has
	leads(t, v, []int{12, 4, sealed, next}, 1, 2, 3, 4, 5, 6, key, sealed, next, last, 11, 12)
}

// P8.1: what was sealed by somebody who made it himself opens nothing that he had not.
func TestMadeAndOpened(t *testing.T) {
	v := filled(t, one, two, enc(one, mention(1)), enc(two, mention(0)), pub(one))
	leads(t, v, []int{0}, 0, 4)
	leads(t, v, []int{1}, 1)
	leads(t, v, []int{0, 3}, 0, 3, 4)
	leads(t, v, []int{1, 3}, 0, 1, 2, 3, 4)
}

// chained is a vault of n keys, and of n - 1 sealed texts: each key's seals the key that is by one from it.
func chained(t *testing.T, n, by int) *vault.Vault {
	t.Helper()
	v := vault.New()
	for i := range n {
		if m, e := v.Intern(atom(int64(i))); m != i || e != api.OK {
			t.Fatal(m, e)
		}
	}
	for i := range n {
		if next := i + by; next >= 0 && next < n {
			if m, e := v.Intern(enc(atom(int64(i)), mention(next)+"x")); e != api.OK {
				t.Fatal(m, e)
			}
		}
	}
	return v
}

// P8.1, P1: as often as something more is found, up and down, in a vault without room.
func TestAgainAndAgain(t *testing.T) {
	const n = 2048
	for _, by := range []int{1, -1} {
		v := chained(t, n, by)
		var sealed, all []int
		for m := range v.Len() {
			all = append(all, m)
			if m >= n {
				sealed = append(sealed, m)
			}
		}
		first := 0
		if by < 0 {
			first = n - 1
		}
		if l := derive.Closure(v, append(sealed, first)); !slices.Equal(l, all) {
			t.Error(by, "not all of a chain", len(l))
		}
		if l := derive.Closure(v, sealed); !slices.Equal(l, sealed) {
			t.Error(by, "without a key", len(l))
		}
		if l := derive.Closure(v, append(sealed, n-1-first)); !slices.Equal(l, append([]int{n - 1 - first}, sealed...)) {
			t.Error(by, "the wrong end", len(l))
		}
		broken := slices.Delete(slices.Clone(sealed), n/2, n/2+1)
		if l := derive.Closure(v, append(broken, first)); len(l) < n || len(l) > n*3/2+2 {
			t.Error(by, "a broken chain", len(l))
		}
		if m, e := v.Intern(hash("")); m != 4095 || e != api.OK {
			t.Error(m, e)
		}
		if l := derive.Closure(v, nil); !slices.Equal(l, []int{4095}) {
			t.Error(l)
		}
	}
}

// P8.1, P1: many powers, and long data that mention many.
func TestMany(t *testing.T) {
	v := vault.New()
	const atoms = 18
	for i := range atoms {
		v.Intern(atom(int64(i)))
	}
	for a := range atoms { // all powers of up to four
		for b := a; b < atoms; b++ {
			for c := b; c < atoms; c++ {
				v.Intern(exp(atom(int64(a)), atom(int64(b)), atom(int64(c))))
				for d := c; d < atoms && v.Len() < 4000; d++ {
					v.Intern(exp(atom(int64(a)), atom(int64(b)), atom(int64(c)), atom(int64(d))))
				}
			}
		}
	}
	first, _ := v.Find(exp(atom(0), atom(0), atom(0)))
	for k := range atoms {
		want := 0
		for n := range v.Len() { // the atom k, its powers, and all powers of that first one and of k
			x, _ := v.Term(n)
			own, kid := 0, 0
			for _, y := range x.Kids {
				if y.Num == int64(k) {
					own++
				}
				if y.Num == 0 {
					kid++
				}
			}
			if n == k || n == first || x.Op == api.TermExp && (own == len(x.Kids) || kid == 3 && own+kid == len(x.Kids)) {
				want++
			}
		}
		if l := derive.Closure(v, []int{k, first}); len(l) != want {
			t.Error(k, len(l), want)
		}
	}
	v = vault.New()
	for i := range 819 {
		v.Intern(atom(int64(i)))
	}
	var data string
	var all []int
	for i := range 819 {
		data += mention(i)
		all = append(all, i)
	}
	for i := range 819 {
		if n, e := v.Intern(enc(atom(int64(i)), data)); e != api.OK {
			t.Fatal(n, e)
		}
	}
	if l := derive.Closure(v, all[1:]); len(l) != 818 {
		t.Error(len(l))
	}
	if l := derive.Closure(v, []int{7, 819 + 7}); len(l) != 2*819 {
		t.Error(len(l))
	}
	if l := derive.Closure(v, []int{7, 819 + 8}); len(l) != 2 {
		t.Error(len(l))
	}
	if derive.Can(v, all[1:], []byte(data)) || !derive.Can(v, all[1:], []byte(data[10:])) || !derive.Can(v, all, []byte(data)) {
		t.Error("can")
	}
}

// P8.1, P1: those of known that are no handles count for nothing; the others do, in whatever order, as often as they are there.
func TestKnown(t *testing.T) {
	none := []int{-1, -2, 5, 6, 1 << 20, 1 << 32, 1<<32 + 1, 1 << 48, -1 << 32, math.MinInt, math.MaxInt}
	v := filled(t, one, two, three, enc(one, mention(2)), pub(two))
	leads(t, v, none)
	for _, n := range none {
		leads(t, v, []int{n})
		leads(t, v, []int{n, 1}, 1, 4)
		leads(t, v, []int{1, n}, 1, 4)
		leads(t, v, []int{3, n, 0}, 0, 2, 3)
	}
	leads(t, v, []int{3, 3, 0, 3, 0}, 0, 2, 3)
	leads(t, v, []int{4, 3, 2, 1, 0}, 0, 1, 2, 3, 4)
	leads(t, v, slices.Repeat([]int{4, 2}, 1000), 2, 4)
}

// P8.1, P1: without a vault there is nothing, and nothing can be written; one that New did not make is empty.
func TestNoVault(t *testing.T) {
	for _, known := range [][]int{nil, {}, {0}, {-1, 0, 1, 5, math.MaxInt}} {
		for _, b := range []string{"", "a", mention(0), mention(1 << 40)} {
			if l := derive.Closure(nil, known); len(l) != 0 || derive.Can(nil, known, []byte(b)) || derive.Can(nil, known, nil) {
				t.Error("without a vault", known, l)
			}
			for _, v := range []*vault.Vault{vault.New(), new(vault.Vault)} {
				if l := derive.Closure(v, known); len(l) != 0 || !derive.Can(v, known, []byte(b)) || v.Len() != 0 {
					t.Error("an empty one", known, l)
				}
			}
		}
	}
}

// P8.1, D1: bytes can be written if all handles that they mention are had; what they mention beside is none.
func TestCan(t *testing.T) {
	v := filled(t, one, two, three, enc(one, mention(2)), pub(two))
	for _, c := range []struct {
		known []int
		b     string
		can   bool
	}{
		{nil, "", true}, {nil, "hello", true}, {[]int{0}, "hello", true}, {[]int{-5, 99}, "", true},
		{nil, mention(0), false}, {[]int{0}, mention(0), true}, {[]int{0}, mention(1), false}, {[]int{0}, mentions(0, 1), false}, {[]int{0}, mentions(1, 0), false},
		{[]int{0, 3}, mentions(3, 2, 0, 2), true}, {[]int{0, 3}, mentions(3, 2, 0, 1), false}, {[]int{3}, mention(2), false}, {[]int{1}, "a" + mention(4) + "b", true}, {[]int{0}, "a" + mention(4) + "b", false},
		{nil, mention(5), true}, {nil, mention(1<<48 - 1), true}, {nil, mention(1 << 32), true}, {nil, mentions(5, 4), false}, {[]int{4}, mentions(5, 4, 6), true},
		{nil, mention(0)[2:], true}, {nil, mention(0)[1:], true}, {nil, mention(0)[:9], true}, {nil, "\x04\x08" + mention(0), false}, {nil, mention(9)[:9] + mention(0), false},
		{nil, "\x04\x08\xc1\x5e\x04\x08\xc1\x5e\x00\x00\x00\x00\x00\x01", false}, {[]int{1}, "\x04\x08\xc1\x5e\x04\x08\xc1\x5e\x00\x00\x00\x00\x00\x01", true},
		{[]int{0, 3}, strings.Repeat(mentions(2, 0), 5000), true}, {[]int{0, 3}, strings.Repeat(mentions(2, 0), 5000) + mention(1), false}, {nil, strings.Repeat("x", 1<<20), true},
	} {
		for range 2 {
			if can := derive.Can(v, c.known, []byte(c.b)); can != c.can {
				t.Errorf("of %v: %.60q: %v", c.known, c.b, can)
			}
		}
	}
	if !derive.Can(v, nil, nil) {
		t.Error("no bytes")
	}
}

// small are vaults in which many things hang on one another.
func small(t *testing.T) []*vault.Vault {
	t.Helper()
	return []*vault.Vault{
		filled(t, one, two, exp(one), exp(two), exp(one, two), exp(one, one), enc(exp(one, two), mentions(0, 3)), enc(two, mention(6)), pub(exp(two)), hash(mentions(2, 7))),
		filled(t, one, two, three, enc(one, mention(1)), enc(two, mention(2)), enc(three, mention(0)), enc(three, mention(3)), with(api.TermSign, one, mentions(1, 2)), enc(two, mentions(7, 6))),
		filled(t, one, hash(""), enc(hash(""), mention(0)), exp(), exp(one), exp(one, one), exp(one, one, one), exp(one, hash("")), with(api.TermKdf, exp(one, hash("")), mention(2)), enc(one, mentions(9, 8, 7))),
	}
}

// P8.2: of all choices of what is known: the closure of a closure is it, it has all that is known, and one handle more takes nothing away.
func TestAllChoices(t *testing.T) {
	for i, v := range small(t) {
		closures := make([][]int, 1<<v.Len())
		for choice := range closures {
			var known []int
			for n := range v.Len() {
				if choice>>n&1 == 1 {
					known = append(known, n)
				}
			}
			l := hold(t, v, known...)
			if again := derive.Closure(v, l); !slices.Equal(again, l) {
				t.Fatalf("%d: of %v: %v, and of that: %v", i, known, l, again)
			}
			if !has(l, known) {
				t.Fatalf("%d: of %v: %v", i, known, l)
			}
			closures[choice] = l
		}
		for choice, l := range closures {
			for n := range v.Len() {
				if more := closures[choice|1<<n]; !has(more, l) {
					t.Fatalf("%d: of %b: %v, with %d: %v", i, choice, l, n, more)
				}
			}
		}
	}
}

// has: are all of some among others?
func has(l, some []int) bool {
	return !slices.ContainsFunc(some, func(n int) bool { return !slices.Contains(l, n) })
}

// drawnVault is a vault of drawn terms that are made of those ahead of them.
func drawnVault(t *testing.T, next func(below int) int, size int) *vault.Vault {
	v := filled(t, one)
	some := func() api.Term {
		x, _ := v.Term(next(v.Len()))
		return x
	}
	data := func() string {
		s := strings.Repeat("\x04\x08"[:next(3)], next(2))
		for range next(3) {
			s += mention(next(v.Len() + 3))
			s = s[:len(s)-next(12)/11]
		}
		return s
	}
	for v.Len() < size {
		switch next(12) {
		case 0, 1, 2:
			v.Intern(atom(int64(next(30))))
		case 3:
			v.Intern(hash(data()))
		case 4:
			v.Intern(pub(some()))
		case 5, 6, 7:
			v.Intern(enc(some(), data()))
		case 8:
			v.Intern(with(keyed[next(3)], some(), data()))
		default:
			var kids []api.Term
			for range next(5) {
				kids = append(kids, atom(int64(next(4))))
			}
			slices.SortFunc(kids, func(a, b api.Term) int { return int(a.Num - b.Num) })
			v.Intern(exp(kids...))
		}
	}
	return v
}

// P8.1, P8.2: drawn vaults, and some of their handles: what is told; the closure of a closure; more handles; atoms that were not known were opened.
func TestDrawn(t *testing.T) {
	next := drawn()
	atoms, found := 0, 0
	for i := range 2500 {
		v := drawnVault(t, next, 3+next(35))
		var known []int
		for range next(v.Len()) {
			known = append(known, next(v.Len()+2)-1)
		}
		l := hold(t, v, known...)
		if again := derive.Closure(v, l); !slices.Equal(again, l) {
			t.Fatalf("%d: %v, and of that: %v", i, l, again)
		}
		if more := derive.Closure(v, append(slices.Clone(known), next(v.Len()), next(v.Len()))); !has(more, l) {
			t.Fatalf("%d: %v, and of more: %v", i, l, more)
		}
		for _, n := range l {
			if !slices.Contains(known, n) {
				found++
				if x, _ := v.Term(n); x.Op == api.TermAtom {
					atoms++
					if !opened(v, l, n) {
						t.Fatalf("%d: %d was not opened", i, n)
					}
				}
			}
		}
	}
	if atoms < 200 || found < 2000 {
		t.Error("too few", atoms, found)
	}
}

// opened: is there a sealed text that is had, and its key, which mentions a number?
func opened(v *vault.Vault, had []int, n int) bool {
	return slices.ContainsFunc(had, func(m int) bool {
		x, _ := v.Term(m)
		if x.Op != api.TermEnc || n >= m || !strings.Contains(string(x.Data), mention(n)) {
			return false
		}
		key, is := v.Find(x.Kids[0])
		return is && slices.Contains(had, key)
	})
}

// P8.2: no atom is had by anything else than a sealed text that is opened: not by what is signed, hashed, or made of keys, or of powers.
func TestNoAtomElse(t *testing.T) {
	some := []api.Term{one, two, three}
	for _, op := range []api.TermOp{api.TermSign, api.TermKdf} {
		some = append(some, with(op, one, mentions(0, 1, 2)), with(op, three, mentions(0, 1, 2)))
	}
	some = append(some, hash(mentions(0, 1, 2)), pub(one), exp(one), exp(one, two), exp(one, three), exp(one, one, two, three), enc(three, mentions(0, 1, 3)))
	v := filled(t, some...)
	all := make([]int, v.Len())
	for n := range all {
		all[n] = n
	}
	leads(t, v, all[3:], all[3:]...)
	leads(t, v, append(all[3:], 0), append([]int{0}, all[3:]...)...)
	leads(t, v, append(all[3:], 1), append([]int{1}, all[3:]...)...)
	leads(t, v, append(all[3:], 2), all...)
	leads(t, v, append(all[3:len(all)-1], 2), all[2:len(all)-1]...) // it is not had, and can't be made
}

// P1: terms that lie as deep, and are as great, as there is room for.
func TestDeepAndGreat(t *testing.T) {
	v := vault.New()
	great := strings.Repeat("x", 8182) + mention(0)
	deep := one
	for range 15 {
		deep = enc(deep, great)
	}
	last, e := v.Intern(deep)
	if e != api.OK || last != 15 {
		t.Fatal(last, e)
	}
	leads(t, v, []int{0}, 0, 1, 2, 3, 4, 5, 6, 7, 8, 9, 10, 11, 12, 13, 14, 15)
	leads(t, v, []int{15, 14}, 0, 1, 2, 3, 4, 5, 6, 7, 8, 9, 10, 11, 12, 13, 14, 15)
	leads(t, v, []int{15, 13}, 13, 15)
	leads(t, v, []int{15}, 15)
	wide := exp()
	for range 5 {
		wide = exp(wide, wide, wide, wide)
	}
	if n, e := v.Intern(wide); e != api.OK || n != 21 {
		t.Fatal(n, e)
	}
	leads(t, v, nil, 16, 17, 18, 19, 20, 21)
	if n, e := v.Intern(within(15, api.TermPub, one)); e != api.OK || n != 36 {
		t.Fatal(n, e)
	}
	if l := derive.Closure(v, []int{30}); !slices.Equal(l, []int{16, 17, 18, 19, 20, 21, 30, 31, 32, 33, 34, 35, 36}) {
		t.Error(l)
	}
}

// P3: what is told is the same each time, and hangs on the vault as it is then: more terms in it may lead further.
func TestVaultGoesOn(t *testing.T) {
	v := filled(t, one, two, three, exp(one, two, three))
	leads(t, v, []int{0}, 0)
	if n, e := v.Intern(exp(one)); n != 4 || e != api.OK {
		t.Fatal(n, e)
	}
	leads(t, v, []int{0}, 0, 4)
	leads(t, v, []int{4, 1, 2}, 1, 2, 3, 4)
	if n, e := v.Intern(enc(one, mention(2))); n != 5 || e != api.OK {
		t.Fatal(n, e)
	}
	if !derive.Can(v, nil, []byte(mention(6))) {
		t.Error("no handle yet")
	}
	leads(t, v, []int{5, 0}, 0, 2, 4, 5)
	leads(t, v, []int{0}, 0, 4)
	if n, e := v.Intern(pub(two)); n != 6 || e != api.OK || derive.Can(v, nil, []byte(mention(6))) {
		t.Fatal(n, e)
	}
}

// P2, P3: asking puts nothing in, and changes nothing that is handed in, nor its spare room; what comes out is new.
func TestNothingIsChanged(t *testing.T) {
	v := filled(t, one, two, enc(one, mention(1)), exp(one), exp(one, two))
	room := append(make([]int, 0, 64), 2, 0, 2, -1, 77, 5, 6, 7)
	known := room[:5]
	data := append(make([]byte, 0, 64), mentions(1, 2, 9)+"spare"...)
	var before []api.Term
	for n := range v.Len() {
		x, _ := v.Term(n)
		before = append(before, x)
	}
	a := derive.Closure(v, known)
	can := derive.Can(v, known, data[:30])
	if !slices.Equal(a, []int{0, 1, 2, 3, 4}) || !can {
		t.Error(a, can)
	}
	if !slices.Equal(room[:64], append([]int{2, 0, 2, -1, 77, 5, 6, 7}, make([]int, 56)...)) || string(data[:64]) != mentions(1, 2, 9)+"spare"+strings.Repeat("\x00", 29) {
		t.Error("what was handed in was changed", room[:64])
	}
	if v.Len() != len(before) {
		t.Fatal("put in", v.Len())
	}
	for n, want := range before {
		if m, is := v.Find(want); m != n || !is {
			t.Error("changed", n)
		}
	}
	for i := range known {
		known[i] = 1
	}
	b := derive.Closure(v, []int{0, 2})
	for i := range a[:cap(a)] {
		a[:cap(a)][i] = 99
	}
	if c := derive.Closure(v, []int{0, 2}); !slices.Equal(b, []int{0, 1, 2, 3, 4}) || !slices.Equal(c, b) {
		t.Error(b, c)
	}
	l := []int{0, 2}
	if c := derive.Closure(v, l); &c[0] == &l[0] || !slices.Equal(l, []int{0, 2}) {
		t.Error("not a list of its own")
	}
}
