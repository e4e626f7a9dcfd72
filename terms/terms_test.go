package terms_test

import (
	"bytes"
	"math"
	"slices"
	"strings"
	"testing"

	"warder/api"
	"warder/terms"
)

// drawn tells numbers that look drawn, and are the same each time.
func drawn() func(below int) int {
	state := uint64(1)
	return func(below int) int {
		state = state*6364136223846793005 + 1442695040888963407
		return int(state>>33) % below
	}
}

func atom(num int64) api.Term { return api.Term{Op: api.TermAtom, Num: num} }

func pub(key api.Term) api.Term { return api.Term{Op: api.TermPub, Kids: []api.Term{key}} }

func exp(kids ...api.Term) api.Term { return api.Term{Op: api.TermExp, Kids: kids} }

func hash(data string) api.Term { return api.Term{Op: api.TermHash, Data: []byte(data)} }

// with is a term of a key and of data.
func with(op api.TermOp, key api.Term, data string) api.Term {
	return api.Term{Op: op, Data: []byte(data), Kids: []api.Term{key}}
}

// within is a term that lies in so many others.
func within(outer int, op api.TermOp, t api.Term) api.Term {
	for range outer {
		t = api.Term{Op: op, Kids: []api.Term{t}}
	}
	return t
}

// written is a term as a text: two of them stand to one another as their terms do.
func written(t api.Term) string {
	s := []byte(number(int64(t.Op)) + number(t.Num))
	for _, x := range t.Data {
		s = append(s, 1, x)
	}
	s = append(s, 0)
	for _, kid := range t.Kids {
		s = append(append(s, 1), written(kid)...)
	}
	return string(append(s, 0))
}

// number is a number as a text of eight bytes, those below 0 ahead of the others.
func number(n int64) string {
	var s [8]byte
	for i := range s {
		s[i] = byte(uint64(n) >> (56 - 8*i))
	}
	s[0] ^= 0x80
	return string(s[:])
}

func same(a, b api.Term) bool { return written(a) == written(b) }

func zero(t api.Term) bool { return t.Op == 0 && t.Num == 0 && t.Data == nil && t.Kids == nil }

func sign(n int) int {
	switch {
	case n < 0:
		return -1
	case n > 0:
		return 1
	}
	return 0
}

// rightAsTold is the section Types, one rule behind the other.
func rightAsTold(t api.Term, outer int) bool {
	if t.Op < 1 || t.Op > 7 || outer > 15 {
		return false
	}
	for _, kid := range t.Kids {
		if !rightAsTold(kid, outer+1) {
			return false
		}
	}
	noData, noNum := true, true
	switch t.Op {
	case 1:
		noNum = false
		if len(t.Kids) != 0 || t.Num < 0 || t.Num > 1<<40 {
			return false
		}
	case 2:
		if len(t.Kids) != 1 {
			return false
		}
	case 3, 4, 6:
		noData = false
		if len(t.Kids) != 1 {
			return false
		}
	case 5:
		noData = false
		if len(t.Kids) != 0 {
			return false
		}
	case 7:
		if len(t.Kids) > 4 {
			return false
		}
		for i := range t.Kids {
			if i > 0 && written(t.Kids[i-1]) > written(t.Kids[i]) {
				return false
			}
		}
	}
	if noData && len(t.Data) != 0 || noNum && t.Num != 0 {
		return false
	}
	return len(t.Data) <= 8192
}

// sizeAsTold is how many there are, taken one by one.
func sizeAsTold(t api.Term) int {
	n := 0
	for rest := []api.Term{t}; len(rest) > 0; n++ {
		next := rest[len(rest)-1]
		rest = append(rest[:len(rest)-1], next.Kids...)
	}
	return n
}

// ordered are terms put in order, one by one.
func ordered(some []api.Term) []api.Term {
	var row []api.Term
	for _, t := range some {
		at := 0
		for at < len(row) && written(row[at]) <= written(t) {
			at++
		}
		row = slices.Insert(row, at, t)
	}
	return row
}

func normAsTold(t api.Term) api.Term {
	var kids []api.Term
	for _, kid := range t.Kids {
		kids = append(kids, normAsTold(kid))
	}
	if t.Op == 7 {
		kids = ordered(kids)
	}
	return api.Term{Op: t.Op, Num: t.Num, Data: t.Data, Kids: kids}
}

func powAsTold(t, x api.Term) (api.Term, bool) {
	p := exp(ordered(append(slices.Clone(t.Kids), x))...)
	if t.Op != 7 || !rightAsTold(t, 0) || !rightAsTold(x, 0) || !rightAsTold(p, 0) {
		return api.Term{}, false
	}
	return p, true
}

// hold: what is told of one term is as the chapter tells it, and so is its Norm.
func hold(t *testing.T, x api.Term) {
	t.Helper()
	if is, want := terms.Right(x), rightAsTold(x, 0); is != want {
		t.Fatalf("%v: right %v, not %v", x, is, want)
	}
	if size, want := terms.Size(x), sizeAsTold(x); size != want {
		t.Fatalf("%v: size %d, not %d", x, size, want)
	}
	n := terms.Norm(x)
	if want := normAsTold(x); !same(n, want) {
		t.Fatalf("%v: normal as %v, not %v", x, n, want)
	}
	if again := terms.Norm(n); !same(again, n) {
		t.Fatalf("%v: normal as %v, and then as %v", x, n, again)
	}
	if rightAsTold(x, 0) && !same(n, x) {
		t.Fatalf("%v: right, and yet normal as %v", x, n)
	}
}

// holdTwo: they stand as their texts stand, whichever is told first.
func holdTwo(t *testing.T, a, b api.Term) {
	t.Helper()
	want := strings.Compare(written(a), written(b))
	if o := terms.Order(a, b); sign(o) != want {
		t.Fatalf("%v, %v: order %d, not %d", a, b, o, want)
	}
	if o := terms.Order(b, a); sign(o) != -want {
		t.Fatalf("%v, %v: order %d, not %d", b, a, o, -want)
	}
}

// holdPow: a power's power is as told.
func holdPow(t *testing.T, x, y api.Term) {
	t.Helper()
	p, is := terms.Pow(x, y)
	want, wanted := powAsTold(x, y)
	if is != wanted || !same(p, want) {
		t.Fatalf("%v to the power of %v: %v %v, not %v %v", x, y, p, is, want, wanted)
	}
	if !is && !zero(p) {
		t.Fatalf("%v to the power of %v: none, and yet %v", x, y, p)
	}
	if is && (!terms.Right(p) || !same(terms.Norm(p), p)) {
		t.Fatalf("%v to the power of %v: %v is not right", x, y, p)
	}
}

var (
	one, two, three = atom(1), atom(2), atom(3)
	long            = strings.Repeat("x", 8192)
	longer          = long + "x"
)

// P5.1, R1: right terms, of each op.
func TestRightTerms(t *testing.T) {
	for i, x := range []api.Term{
		one,
		atom(0),
		atom(1 << 40),
		pub(one),
		pub(pub(pub(one))),
		pub(hash("a")),
		pub(exp()),
		with(api.TermSign, one, ""),
		with(api.TermSign, one, "a"),
		with(api.TermSign, one, long),
		with(api.TermEnc, one, ""),
		with(api.TermEnc, exp(one, two), "a\x00b"),
		with(api.TermEnc, one, long),
		with(api.TermKdf, one, ""),
		with(api.TermKdf, with(api.TermKdf, one, "a"), "b"),
		with(api.TermKdf, one, long),
		hash(""),
		hash("a"),
		hash(long),
		exp(),
		exp(one),
		exp(one, one),
		exp(one, two),
		exp(one, two, three),
		exp(one, one, one, one),
		exp(one, two, three, atom(4)),
		exp(one, pub(one), with(api.TermSign, one, "a"), hash("")),
		exp(with(api.TermEnc, one, "b"), with(api.TermKdf, one, "a"), exp(two), exp(two, three)),
		{Op: api.TermAtom, Num: 1, Data: []byte{}, Kids: []api.Term{}},
		{Op: api.TermExp, Data: []byte{}, Kids: []api.Term{}},
	} {
		if !terms.Right(x) {
			t.Errorf("%d: %.60v is not right", i, x)
		}
		hold(t, x)
	}
}

// P5.1, R1: wrong terms: each is right but for one thing.
func TestWrongTerms(t *testing.T) {
	for i, x := range []api.Term{
		{},
		{Op: 8},
		{Op: -1},
		{Op: 0, Num: 1},
		{Op: math.MaxInt},
		{Op: math.MinInt, Kids: []api.Term{one}},
		atom(-1),
		atom(1<<40 + 1),
		atom(math.MaxInt64),
		atom(math.MinInt64),
		{Op: api.TermAtom, Num: 1, Data: []byte("a")},
		{Op: api.TermAtom, Num: 1, Kids: []api.Term{one}},
		{Op: api.TermPub},
		{Op: api.TermPub, Kids: []api.Term{one, two}},
		{Op: api.TermPub, Num: 1, Kids: []api.Term{one}},
		{Op: api.TermPub, Data: []byte("a"), Kids: []api.Term{one}},
		{Op: api.TermSign, Data: []byte("a")},
		{Op: api.TermSign, Data: []byte("a"), Kids: []api.Term{one, one}},
		{Op: api.TermSign, Num: 1, Data: []byte("a"), Kids: []api.Term{one}},
		with(api.TermSign, one, longer),
		{Op: api.TermEnc, Data: []byte("a")},
		{Op: api.TermEnc, Data: []byte("a"), Kids: []api.Term{one, two}},
		{Op: api.TermEnc, Num: -1, Data: []byte("a"), Kids: []api.Term{one}},
		with(api.TermEnc, one, longer),
		{Op: api.TermKdf, Data: []byte("a")},
		{Op: api.TermKdf, Data: []byte("a"), Kids: []api.Term{one, two}},
		{Op: api.TermKdf, Num: 1, Data: []byte("a"), Kids: []api.Term{one}},
		with(api.TermKdf, one, longer),
		{Op: api.TermHash, Num: 1},
		{Op: api.TermHash, Kids: []api.Term{one}},
		{Op: api.TermHash, Num: 1, Data: []byte("a")},
		hash(longer),
		{Op: api.TermExp, Num: 1},
		{Op: api.TermExp, Data: []byte("a")},
		{Op: api.TermExp, Num: 1, Kids: []api.Term{one}},
		{Op: api.TermExp, Data: []byte("a"), Kids: []api.Term{one}},
		exp(two, one),
		exp(one, three, two),
		exp(two, two, two, one),
		exp(pub(one), one),
		exp(exp(one, two), exp(one)),
		exp(hash("b"), hash("a")),
		exp(hash("aa"), hash("a")),
		exp(one, one, one, one, one),
		exp(one, two, three, atom(4), atom(5)),
		pub(api.Term{}),
		pub(atom(-1)),
		with(api.TermSign, pub(exp(two, one)), "a"),
		exp(one, exp(two, one)),
		exp(one, two, three, api.Term{Op: 8}),
		exp(api.Term{}, one),
		with(api.TermEnc, hash(longer), "a"),
	} {
		if terms.Right(x) {
			t.Errorf("%d: %.60v is right", i, x)
		}
		hold(t, x)
	}
}

// P5.1, R1: each op, with each number of kids, and numbers and data at their edges.
func TestRightAtEdges(t *testing.T) {
	nums := []int64{0, 1, -1, 1<<40 - 1, 1 << 40, 1<<40 + 1, math.MinInt64, math.MaxInt64}
	for op := api.TermOp(-2); op <= 10; op++ {
		for kids := range 7 {
			for _, num := range nums {
				for _, data := range []int{0, 1, 8191, 8192, 8193, 65536} {
					x := api.Term{Op: op, Num: num, Data: make([]byte, data), Kids: slices.Repeat([]api.Term{one}, kids)}
					if is, want := terms.Right(x), rightAsTold(x, 0); is != want {
						t.Fatalf("op %d, num %d, %d bytes, %d kids: %v", op, num, data, kids, is)
					}
				}
			}
		}
	}
}

// P5.1, R1: a term lies in at most 15 others, whatever they are.
func TestDeepTerms(t *testing.T) {
	for _, op := range []api.TermOp{api.TermPub, api.TermSign, api.TermEnc, api.TermKdf, api.TermExp} {
		for outer := range 40 {
			for _, inner := range []api.Term{one, hash("a"), exp()} {
				x := within(outer, op, inner)
				if is := terms.Right(x); is != (outer <= 15) {
					t.Errorf("op %d: in %d others: %v", op, outer, is)
				}
				hold(t, x)
				hold(t, exp(one, x))
				hold(t, exp(hash(""), x, x))
			}
		}
	}
	if terms.Right(exp(one, two, three, within(15, api.TermPub, one))) {
		t.Error("in 16 others, the last one of four")
	}
}

// P5.1, R1: Order goes by op, number, data, kids, and then by how many kids.
func TestOrder(t *testing.T) {
	// Each of these stands ahead of all that follow.
	row := []api.Term{
		{Op: math.MinInt, Num: 9},
		{Op: -1, Num: 9},
		{},
		{Num: 1, Kids: []api.Term{two}},
		{Op: api.TermAtom, Num: math.MinInt64, Data: []byte("z"), Kids: []api.Term{two}},
		atom(-1),
		atom(0),
		one,
		{Op: api.TermAtom, Num: 1, Kids: []api.Term{{}}},
		{Op: api.TermAtom, Num: 1, Data: []byte{0}},
		two,
		atom(1 << 40),
		atom(math.MaxInt64),
		{Op: api.TermPub},
		pub(one),
		{Op: api.TermPub, Kids: []api.Term{one, one}},
		{Op: api.TermPub, Kids: []api.Term{one, two}},
		pub(two),
		pub(pub(one)),
		pub(hash("")),
		with(api.TermSign, two, ""),
		with(api.TermSign, two, "\x00"),
		with(api.TermSign, two, "A"),
		with(api.TermSign, two, "a"),
		with(api.TermSign, one, "aa"),
		with(api.TermSign, two, "aa"),
		with(api.TermSign, one, "b"),
		with(api.TermSign, one, "\x7f"),
		with(api.TermSign, one, "\x80"),
		with(api.TermSign, one, "\xff"),
		with(api.TermEnc, one, "a"),
		hash(""),
		hash("a"),
		{Op: api.TermHash, Num: 1},
		with(api.TermKdf, one, "a"),
		exp(),
		exp(one),
		exp(one, one),
		exp(one, one, one),
		exp(one, two),
		exp(one, exp()),
		exp(one, exp(one)),
		exp(one, exp(two)),
		exp(two),
		exp(two, one),
		exp(exp(), one),
		exp(exp(one)),
		exp(exp(one), one),
		exp(exp(one, one), one),
		{Op: api.TermExp, Data: []byte("a")},
		{Op: api.TermExp, Num: 1},
		{Op: 8},
		{Op: math.MaxInt},
	}
	for i := range row {
		for j := range row {
			holdTwo(t, row[i], row[j])
			o := terms.Order(row[i], row[j])
			if sign(o) != sign(i-j) {
				t.Errorf("%v, %v: %d", row[i], row[j], o)
			}
		}
	}
	empty := api.Term{Op: api.TermExp, Data: []byte{}, Kids: []api.Term{}}
	if o := terms.Order(exp(), empty); o != 0 {
		t.Error("an empty list that is nil stands elsewhere:", o)
	}
}

// few are many small terms, right and wrong.
func few() []api.Term {
	leaves := []api.Term{{}, atom(-1), atom(0), one, two, hash(""), hash("a"), hash("b"), hash("aa"), exp(), {Op: 8}, {Op: api.TermExp, Num: 1}, {Op: api.TermExp, Data: []byte("a")}}
	all := slices.Clone(leaves)
	for _, x := range leaves {
		all = append(all, pub(x), exp(x), with(api.TermSign, x, "a"), with(api.TermEnc, x, ""), with(api.TermKdf, x, "b"))
		for _, y := range []api.Term{one, two, exp()} {
			all = append(all, exp(x, y), exp(x, y, x), pub(exp(x, y)), api.Term{Op: api.TermPub, Kids: []api.Term{x, y}})
		}
	}
	return all
}

// P5.1, P5.2: small terms, each by itself, each two and each three: Order is an order of all of them.
func TestSmallTerms(t *testing.T) {
	all := few()
	n := len(all)
	order := make([]int, n*n)
	for i, a := range all {
		hold(t, a)
		for j, b := range all {
			holdTwo(t, a, b)
			order[i*n+j] = sign(terms.Order(a, b))
			if alike := order[i*n+j] == 0; alike != same(a, b) {
				t.Fatalf("%v, %v: alike: %v", a, b, alike)
			}
		}
	}
	for i := range n {
		for j := range n {
			for k := range n {
				first, second := order[i*n+j], order[j*n+k]
				if first <= 0 && second <= 0 && order[i*n+k] != min(first, second) {
					t.Fatalf("%v, %v, %v: not in order", all[i], all[j], all[k])
				}
			}
		}
	}
}

// P5.1, R1: how many terms one is.
func TestSize(t *testing.T) {
	for _, c := range []struct {
		x    api.Term
		want int
	}{
		{api.Term{}, 1},
		{one, 1},
		{hash(long), 1},
		{exp(), 1},
		{pub(one), 2},
		{with(api.TermSign, pub(one), "a"), 3},
		{exp(one, two), 3},
		{exp(one, one), 3}, // each as often as it is there
		{exp(exp(one, one), exp(one, one)), 7},
		{exp(one, two, three, pub(exp(one))), 7},
		{api.Term{Op: 8, Kids: []api.Term{one, {}, pub(one)}}, 5},
		{within(15, api.TermPub, one), 16},
		{within(1000, api.TermPub, one), 1001},
		{exp(slices.Repeat([]api.Term{pub(one)}, 1000)...), 2001},
	} {
		if size := terms.Size(c.x); size != c.want {
			t.Errorf("%.60v: %d, not %d", c.x, size, c.want)
		}
		hold(t, c.x)
	}
}

// P5.1, R2, P5.4: the kids of each power in a term are put in order, and no others.
func TestNorm(t *testing.T) {
	for _, c := range []struct{ x, want api.Term }{
		{api.Term{}, api.Term{}},
		{one, one},
		{atom(-1), atom(-1)},
		{hash("ba"), hash("ba")},
		{exp(), exp()},
		{exp(two, one), exp(one, two)},
		{exp(one, two), exp(one, two)},
		{exp(two, one, two, one, three, one), exp(one, one, one, two, two, three)},
		{exp(exp(), hash("b"), hash("a"), pub(two), pub(one), one), exp(one, pub(one), pub(two), hash("a"), hash("b"), exp())},
		{pub(exp(two, one)), pub(exp(one, two))},
		{with(api.TermEnc, exp(two, one), "ba"), with(api.TermEnc, exp(one, two), "ba")},
		{with(api.TermSign, exp(pub(exp(two, one)), one), "ba"), with(api.TermSign, exp(one, pub(exp(one, two))), "ba")},
		// Kids are put in order as they stand when theirs are.
		{exp(exp(two, three), exp(three, one)), exp(exp(one, three), exp(two, three))},
		{exp(exp(three, one), exp(two, three)), exp(exp(one, three), exp(two, three))},
		{exp(exp(three, one), exp(two)), exp(exp(one, three), exp(two))},
		{exp(pub(exp(two)), pub(exp(three, one))), exp(pub(exp(one, three)), pub(exp(two)))},
		// Others' kids stay where they are, those of ops that there are not, too.
		{api.Term{Op: api.TermPub, Kids: []api.Term{two, one}}, api.Term{Op: api.TermPub, Kids: []api.Term{two, one}}},
		{api.Term{Op: api.TermSign, Kids: []api.Term{exp(two, one), one}}, api.Term{Op: api.TermSign, Kids: []api.Term{exp(one, two), one}}},
		{api.Term{Kids: []api.Term{exp(two, one), one}}, api.Term{Kids: []api.Term{exp(one, two), one}}},
		{api.Term{Op: 8, Kids: []api.Term{exp(two, one), one}}, api.Term{Op: 8, Kids: []api.Term{exp(one, two), one}}},
		{api.Term{Op: api.TermAtom, Num: 5, Kids: []api.Term{two, exp(two, one)}}, api.Term{Op: api.TermAtom, Num: 5, Kids: []api.Term{two, exp(one, two)}}},
		{api.Term{Op: api.TermExp, Num: 7, Data: []byte("ba"), Kids: []api.Term{two, one}}, api.Term{Op: api.TermExp, Num: 7, Data: []byte("ba"), Kids: []api.Term{one, two}}},
		{within(20, api.TermEnc, exp(two, one)), within(20, api.TermEnc, exp(one, two))},
	} {
		if n := terms.Norm(c.x); !same(n, c.want) {
			t.Errorf("%v: %v, not %v", c.x, n, c.want)
		}
		hold(t, c.x)
	}
}

// P5.1, R2: a power's power.
func TestPow(t *testing.T) {
	for _, c := range []struct{ t, x, want api.Term }{
		{exp(), one, exp(one)},
		{exp(one), two, exp(one, two)},
		{exp(two), one, exp(one, two)},
		{exp(one), one, exp(one, one)},
		{exp(one, three), two, exp(one, two, three)},
		{exp(two, three), one, exp(one, two, three)},
		{exp(one, two, three), two, exp(one, two, two, three)},
		{exp(one, two, three), atom(0), exp(atom(0), one, two, three)},
		{exp(hash("a")), pub(one), exp(pub(one), hash("a"))},
		{exp(), exp(), exp(exp())},
		{exp(two), exp(one), exp(two, exp(one))},
		{exp(exp(one)), two, exp(two, exp(one))},
		{exp(), hash(long), exp(hash(long))},
		{exp(one), within(14, api.TermPub, one), exp(one, within(14, api.TermPub, one))},
		{within(15, api.TermExp, exp()), one, exp(one, within(14, api.TermExp, exp()))},
	} {
		if p, is := terms.Pow(c.t, c.x); !is || !same(p, c.want) {
			t.Errorf("%.60v to the power of %.60v: %.60v %v, not %.60v", c.t, c.x, p, is, c.want)
		}
		holdPow(t, c.t, c.x)
	}
}

// P5.1, R2, P2: where there is no power, or one of both is not right, nothing is answered.
func TestNoPow(t *testing.T) {
	for i, c := range []struct{ t, x api.Term }{
		{one, two},
		{pub(one), two},
		{with(api.TermSign, one, "a"), two},
		{with(api.TermEnc, one, "a"), two},
		{hash("a"), two},
		{with(api.TermKdf, one, "a"), two},
		{api.Term{}, one},
		{api.Term{Op: 8}, one},
		{api.Term{Op: 8, Kids: []api.Term{one}}, one},
		{one, exp(two)},
		{exp(one, two, three, atom(4)), atom(5)},
		{exp(one, one, one, one), one},
		{exp(one, two, three, atom(4), atom(5)), atom(6)},
		{exp(two, one), three},
		{exp(exp(two, one)), three},
		{api.Term{Op: api.TermExp, Num: 1}, one},
		{api.Term{Op: api.TermExp, Data: []byte("a")}, one},
		{exp(atom(-1)), one},
		{exp(one), api.Term{}},
		{exp(one), atom(-1)},
		{exp(one), atom(1<<40 + 1)},
		{exp(one), exp(two, one)},
		{exp(one), pub(exp(two, one))},
		{exp(one), hash(longer)},
		{exp(one), api.Term{Op: 8}},
		{exp(one), within(15, api.TermPub, one)}, // x is right, but lies in 16 others then
		{exp(one), within(15, api.TermExp, exp())},
		{exp(one), within(16, api.TermPub, one)},
		{within(16, api.TermExp, exp()), one},
	} {
		if p, is := terms.Pow(c.t, c.x); is || !zero(p) {
			t.Errorf("%d: %.60v to the power of %.60v: %.60v %v", i, c.t, c.x, p, is)
		}
		holdPow(t, c.t, c.x)
	}
}

// P5.3: powers of powers are alike, whichever was first, or are not there for both.
func TestPowers(t *testing.T) {
	some := few()
	for _, base := range []api.Term{exp(), exp(one), exp(two, two), exp(one, two, three), exp(two, exp()), exp(two, one), one} {
		for _, x := range some {
			holdPow(t, base, x)
			holdPow(t, x, base)
			for _, y := range some {
				left, is := twice(base, x, y)
				right, it := twice(base, y, x)
				if is != it || !same(left, right) {
					t.Fatalf("%v, %v, %v: %v %v, %v %v", base, x, y, left, is, right, it)
				}
				if want := terms.Right(base) && base.Op == 7 && len(base.Kids) < 3 && terms.Right(x) && terms.Right(y); is != want {
					t.Fatalf("%v, %v, %v: %v", base, x, y, is)
				}
			}
		}
	}
}

func twice(base, x, y api.Term) (api.Term, bool) {
	p, is := terms.Pow(base, x)
	if !is {
		return p, is
	}
	return terms.Pow(p, y)
}

// draw is a right term that is at most so deep.
func draw(next func(int) int, deep int) api.Term {
	data := strings.Repeat("Ann", next(2)) + strings.Repeat(string([]byte{byte(next(0x100))}), next(2))
	if deep == 0 || next(4) == 0 {
		switch next(3) {
		case 0:
			return hash(data)
		case 1:
			return exp()
		}
		return atom(int64(next(4)) << next(39))
	}
	switch next(5) {
	case 0:
		return pub(draw(next, deep-1))
	case 1:
		return with(api.TermSign, draw(next, deep-1), data)
	case 2:
		return with(api.TermEnc, draw(next, deep-1), data)
	case 3:
		return with(api.TermKdf, draw(next, deep-1), data)
	}
	var kids []api.Term
	for range next(5) {
		kids = append(kids, draw(next, deep-1))
	}
	return exp(ordered(kids)...)
}

// spoil changes a term somewhere within it.
func spoil(next func(int) int, x api.Term) api.Term {
	x.Kids = slices.Clone(x.Kids)
	if len(x.Kids) > 0 && next(3) > 0 {
		at := next(len(x.Kids))
		x.Kids[at] = spoil(next, x.Kids[at])
		return x
	}
	switch next(6) {
	case 0:
		x.Op += api.TermOp(next(3) - 1)
	case 1:
		x.Num += int64(next(3) - 1)
	case 2:
		x.Data = append(bytes.Clone(x.Data), byte(next(0x100)))
	case 3:
		x.Kids = append(x.Kids, atom(int64(next(3))))
	case 4:
		x.Kids = x.Kids[:next(len(x.Kids)+1)]
	case 5:
		slices.Reverse(x.Kids)
	}
	return x
}

// P5.1 to P5.4: drawn terms, and those with something changed in them.
func TestDrawnTerms(t *testing.T) {
	next := drawn()
	right, wrong, powers := 0, 0, 0
	last := one
	for range 20000 {
		x := draw(next, 1+next(6))
		if !terms.Right(x) {
			t.Fatalf("%v is not right", x)
		}
		y := x
		for range 4 {
			hold(t, y)
			holdTwo(t, x, y)
			holdTwo(t, y, last)
			holdPow(t, y, last)
			holdPow(t, last, y)
			if _, is := terms.Pow(y, last); is {
				powers++
			}
			if terms.Right(y) {
				right++
			} else {
				wrong++
			}
			last, y = y, spoil(next, y)
		}
	}
	if right < 20000 || wrong < 10000 || powers < 1000 {
		t.Error("too few of one kind", right, wrong, powers)
	}
}

// P5.2: drawn terms that are sorted by Order stand as their texts do.
func TestOrderSorts(t *testing.T) {
	next := drawn()
	var row []api.Term
	for range 5000 {
		x := draw(next, 1+next(4))
		row = append(row, x, spoil(next, x))
	}
	slices.SortFunc(row, terms.Order)
	if !slices.IsSortedFunc(row, func(a, b api.Term) int { return strings.Compare(written(a), written(b)) }) {
		t.Error("not as their texts stand")
	}
}

// P1: a term that has itself among its kids, and one that is kids' kids again and again.
func TestRightAndPowEnd(t *testing.T) {
	for op := api.TermOp(0); op <= 8; op++ {
		for n := 1; n < 6; n++ {
			kids := make([]api.Term, n)
			for i := range kids {
				kids[i] = api.Term{Op: op, Kids: kids}
			}
			x := api.Term{Op: op, Kids: kids}
			if terms.Right(x) {
				t.Error(op, n, "right")
			}
			for _, c := range [][2]api.Term{{x, one}, {exp(), x}, {x, x}} {
				if p, is := terms.Pow(c[0], c[1]); is || !zero(p) {
					t.Error(op, n, p, is)
				}
			}
		}
	}
	x := exp()
	for range 14 {
		x = exp(x, x)
	}
	if !terms.Right(x) || terms.Size(x) != 1<<15-1 {
		t.Error("two of two of two", terms.Size(x))
	}
	if p, is := terms.Pow(exp(x), x); !is || terms.Size(p) != 1<<16-1 {
		t.Error("its power", is)
	}
	if x = exp(x, x); !terms.Right(x) || terms.Size(x) != 1<<16-1 {
		t.Error("two more")
	}
	if p, is := terms.Pow(exp(), x); is || !zero(p) {
		t.Error("in 16 others")
	}
}

// P1: terms within very many others, of very many kids, and of very many bytes.
func TestGreatTermsEnd(t *testing.T) {
	deep := func(num int64) api.Term { return within(1<<16-1, api.TermExp, exp(two, atom(num))) }
	wide := exp(slices.Repeat([]api.Term{two, one}, 1<<17)...)
	fat := hash(strings.Repeat("x", 1<<24))
	for _, x := range []api.Term{deep(1), wide, fat} {
		if terms.Right(x) {
			t.Error("right")
		}
		for _, c := range [][2]api.Term{{x, one}, {exp(), x}, {x, x}} {
			if p, is := terms.Pow(c[0], c[1]); is || !zero(p) {
				t.Error("a power")
			}
		}
	}
	if n := terms.Size(deep(1)); n != 1<<16+2 {
		t.Error(n)
	}
	if n := terms.Size(wide); n != 1<<18+1 {
		t.Error(n)
	}
	if terms.Order(deep(0), deep(1)) >= 0 || terms.Order(deep(1), deep(0)) <= 0 || terms.Order(deep(1), deep(1)) != 0 {
		t.Error("deep ones")
	}
	if terms.Order(fat, hash(string(fat.Data)+"x")) >= 0 || terms.Order(wide, exp(append(slices.Clone(wide.Kids), one)...)) >= 0 {
		t.Error("wide ones")
	}
	n := terms.Norm(deep(1))
	for range 1<<16 - 1 {
		n = n.Kids[0]
	}
	if !same(n, exp(one, two)) {
		t.Error(n)
	}
	n = terms.Norm(wide)
	if len(n.Kids) != 1<<18 || n.Kids[1<<17-1].Num != 1 || n.Kids[1<<17].Num != 2 {
		t.Error("a wide one, in order")
	}
}

// spare is a term of which each list has spare room, with something in it.
func spare(x api.Term) api.Term {
	data := append(make([]byte, 0, len(x.Data)+8), x.Data...)
	copy(data[len(data):cap(data)], "sparespare")
	kids := make([]api.Term, 0, len(x.Kids)+4)
	for _, kid := range x.Kids {
		kids = append(kids, spare(kid))
	}
	for i := len(kids); i < cap(kids); i++ {
		kids[:cap(kids)][i] = atom(int64(77 + i))
	}
	x.Data, x.Kids = data, kids
	return x
}

// whole is a term with the spare room of each list.
func whole(x api.Term) api.Term {
	var kids []api.Term
	for _, kid := range x.Kids[:cap(x.Kids)] {
		kids = append(kids, whole(kid))
	}
	return api.Term{Op: x.Op, Num: x.Num, Data: bytes.Clone(x.Data[:cap(x.Data)]), Kids: kids}
}

// lists are all lists of a term, with their spare room.
func lists(x api.Term) ([][]byte, [][]api.Term) {
	data, kids := [][]byte{x.Data[:cap(x.Data)]}, [][]api.Term{x.Kids[:cap(x.Kids)]}
	for _, kid := range x.Kids {
		d, k := lists(kid)
		data, kids = append(data, d...), append(kids, k...)
	}
	return data, kids
}

// apart: do no two lists of these terms share any room?
func apart(some ...api.Term) bool {
	bytesSeen, kidsSeen := map[*byte]bool{}, map[*api.Term]bool{}
	for _, x := range some {
		data, kids := lists(x)
		for _, l := range data {
			for i := range l {
				if bytesSeen[&l[i]] {
					return false
				}
				bytesSeen[&l[i]] = true
			}
		}
		for _, l := range kids {
			for i := range l {
				if kidsSeen[&l[i]] {
					return false
				}
				kidsSeen[&l[i]] = true
			}
		}
	}
	return true
}

// P3: what is handed in is not changed, nor its spare room; an answer is new memory, and none of its lists lies in another one.
func TestNothingIsTaken(t *testing.T) {
	shared := []api.Term{two, one}
	data := []byte("abcdef")
	for _, x := range []api.Term{
		one, two, hash("abc"), exp(), exp(one), exp(two), exp(one, three), exp(one, two, three), exp(three, two, one),
		exp(two, with(api.TermEnc, hash("abc"), "def")),
		exp(exp(two, one), exp(one, three), one),
		with(api.TermSign, exp(hash("b"), hash("a")), "abc"),
	} {
		for _, y := range []api.Term{one, two, exp(one), exp(two, one), hash("abc"), with(api.TermKdf, exp(hash("abc")), "def")} {
			a, b := spare(x), spare(y)
			wholeA, wholeB := whole(a), whole(b)
			right, size, order, norm := terms.Right(a), terms.Size(a), terms.Order(a, b), terms.Norm(a)
			p, is := terms.Pow(a, b)
			if !same(whole(a), wholeA) || !same(whole(b), wholeB) {
				t.Fatalf("%v or %v has changed", x, y)
			}
			if !apart(a, b, norm, p) {
				t.Fatalf("%v, %v: an answer lies in what was handed in, or in itself", x, y)
			}
			again, it := terms.Pow(a, b)
			if terms.Right(a) != right || terms.Size(a) != size || terms.Order(a, b) != order || !same(terms.Norm(a), norm) || !same(again, p) || it != is {
				t.Fatalf("%v, %v: told otherwise the second time", x, y)
			}
		}
	}
	// Lists that are handed in may be one: those that come out are not.
	x := exp(api.Term{Op: api.TermExp, Kids: shared}, api.Term{Op: api.TermExp, Kids: shared}, api.Term{Op: api.TermHash, Data: data}, api.Term{Op: api.TermHash, Data: data})
	if n := terms.Norm(x); !apart(n) || shared[0].Num != 2 {
		t.Error("Norm's lists are one")
	}
	h := api.Term{Op: api.TermHash, Data: data}
	if p, is := terms.Pow(exp(h), h); !is || !apart(p, h) {
		t.Error("Pow's lists are one")
	}
	round := exp(h)
	round.Kids = append(make([]api.Term, 0, 4), round.Kids...)
	if p, is := terms.Pow(round, atom(1)); !is || round.Kids[0].Op != api.TermHash || !zero(round.Kids[:2][1]) || !apart(p, round) {
		t.Error("Pow puts into a list that is another one's")
	}
}

// P3: nothing is kept of what is handed in, or handed out.
func TestNothingIsKept(t *testing.T) {
	make3 := func() api.Term { return exp(with(api.TermEnc, hash("abc"), "def"), exp(one, two)) }
	x := make3()
	n := terms.Norm(x)
	p, is := terms.Pow(x, one)
	scribble(x)
	if !is || !same(n, make3()) || !same(p, exp(one, make3().Kids[0], make3().Kids[1])) {
		t.Error("an answer lies in what was handed in")
	}
	scribble(n)
	scribble(p)
	if again := terms.Norm(make3()); !same(again, make3()) {
		t.Error(again)
	}
}

// scribble spoils all of a term's lists.
func scribble(x api.Term) {
	data, kids := lists(x)
	for _, l := range data {
		for i := range l {
			l[i] ^= 0x55
		}
	}
	for _, l := range kids {
		for i := range l {
			l[i] = api.Term{Op: 9}
		}
	}
}
