package subtrees_test

import (
	"fmt"
	"math"
	"slices"
	"strings"
	"testing"

	"warder/api"
	"warder/subtrees"
	"warder/texts"
)

// drawn tells numbers that look drawn, and are the same each time.
func drawn() func(below int) int {
	state := uint64(1)
	return func(below int) int {
		state = state*6364136223846793005 + 1442695040888963407
		return int(state>>33) % below
	}
}

func attr(text string, arcs ...int) api.Attr { return api.Attr{Oid: arcs, Text: text} }

// cn, org and ou are parts of three objects.
func cn(text string) api.Attr { return attr(text, 2, 5, 4, 3) }

func org(text string) api.Attr { return attr(text, 2, 5, 4, 10) }

func ou(text string) api.Attr { return attr(text, 2, 5, 4, 11) }

func name(parts ...api.Attr) api.Name { return parts }

// some are names, or none.
func some(list ...api.Name) []api.Name { return list }

// permits and excludes are spaces of these alone.
func permits(lists ...[]api.Name) api.Space { return api.Space{Permit: lists} }

func excludes(list ...api.Name) api.Space { return api.Space{Exclude: list} }

// short is how something is told where it is wrong.
func short(x any) string {
	s := fmt.Sprintf("%+v", x)
	return s[:min(len(s), 400)]
}

// oneName: are two names one, byte by byte? oneSpace: are two spaces, be their empty lists nil or not?
func oneName(a, b api.Name) bool {
	return slices.EqualFunc(a, b, func(x, y api.Attr) bool { return slices.Equal(x.Oid, y.Oid) && x.Text == y.Text })
}

func oneList(a, b []api.Name) bool { return slices.EqualFunc(a, b, oneName) }

func oneSpace(a, b api.Space) bool {
	return slices.EqualFunc(a.Permit, b.Permit, oneList) && oneList(a.Exclude, b.Exclude)
}

// underAsTold: is a name under another one, by layer 9's words?
func underAsTold(a, base api.Name) bool {
	for i, part := range base {
		if i >= len(a) || !slices.Equal(a[i].Oid, part.Oid) || texts.Prep(a[i].Text) != texts.Prep(part.Text) {
			return false
		}
	}
	return true
}

// count is how many of some a name is under.
func count(n api.Name, list []api.Name) int {
	sum := 0
	for _, base := range list {
		if underAsTold(n, base) {
			sum++
		}
	}
	return sum
}

// allowedAsTold is the word of S1.
func allowedAsTold(s api.Space, n api.Name) bool {
	allow := count(n, s.Exclude) == 0
	for _, list := range s.Permit {
		allow = allow && count(n, list) > 0
	}
	return allow
}

// narrowAsTold is the word of S2. What it answers lies in what it is given.
func narrowAsTold(s api.Space, permit, exclude []api.Name) api.Space {
	out := api.Space{Permit: slices.Concat(s.Permit), Exclude: slices.Concat(s.Exclude, exclude)}
	if len(permit) != 0 {
		out.Permit = append(out.Permit, permit)
	}
	return out
}

// holdAllowed: a name is allowed as told.
func holdAllowed(t *testing.T, s api.Space, n api.Name) bool {
	t.Helper()
	got := subtrees.Allowed(s, n)
	if want := allowedAsTold(s, n); got != want {
		t.Fatalf("%s in %s: %v, not %v", short(n), short(s), got, want)
	}
	return got
}

// holdNarrow: a space is narrowed as told, and what is allowed in it is what P13.2 says.
func holdNarrow(t *testing.T, s api.Space, permit, exclude []api.Name, asked []api.Name) api.Space {
	t.Helper()
	got := subtrees.Narrow(s, permit, exclude)
	if want := narrowAsTold(s, permit, exclude); !oneSpace(got, want) {
		t.Fatalf("%s with %s and %s: %s, not %s", short(s), short(permit), short(exclude), short(got), short(want))
	}
	for _, n := range asked {
		was, is := holdAllowed(t, s, n), holdAllowed(t, got, n)
		if is && !was || is != (was && (len(permit) == 0 || count(n, permit) > 0) && count(n, exclude) == 0) {
			t.Fatalf("%s in %s: %v; with %s and %s: %v", short(n), short(s), was, short(permit), short(exclude), is)
		}
	}
	return got
}

var (
	a  = name(org("a"))
	ab = name(org("a"), org("b"))
	ax = name(org("a"), org("b"), cn("x"))
	z  = name(org("z"))
)

// P13.1, S1: the chapter's examples, and names at each edge of a space.
func TestAllowed(t *testing.T) {
	none := api.Name{}
	for _, c := range []struct {
		s    api.Space
		n    api.Name
		want bool
	}{
		{api.Space{}, ax, true},
		{api.Space{}, none, true},
		{api.Space{}, nil, true},
		{permits(some(a), some(ab)), ax, true},
		{permits(some(a), some(ab)), ab, true},
		{permits(some(a), some(ab)), a, false},
		{permits(some(ab), some(a)), a, false}, // in either order
		{permits(some(ab), some(a)), ax, true},
		{permits(some(a)), a, true}, // one's own beginning is all of one
		{permits(some(a)), z, false},
		{permits(some(a)), none, false},
		{permits(some(a)), nil, false},
		{permits(some(ab)), a, false},                   // a beginning of what is permitted is not below it
		{permits(some(ab)), name(org("b")), false},      // nor is its end
		{permits(some(ab)), name(z[0], a[0]), false},    // nor what has it further down
		{permits(some(a)), name(cn("a")), false},        // of another object
		{permits(some(a)), name(org("ab")), false},      // a text's beginning is not that text
		{permits(some(a)), name(org(" A ")), true},      // texts are prepared
		{permits(some(name(org(" A ")))), ax, true},     // on both sides
		{permits(some(z, a)), ax, true},                 // one of some is enough
		{permits(some(a, z)), ax, true},                 // be it the first or the last one
		{permits(some(z, ab, z)), ax, true},             // or one between
		{permits(some(a, ab, ax)), ax, true},            // or all
		{permits(some(z, name(cn("a")))), ax, false},    // but none is too few
		{permits(some(a), some(z)), ax, false},          // each list has to have one
		{permits(some(z), some(a)), ax, false},          // be it the first
		{permits(some(a), some(z), some(a)), ax, false}, // or between
		{permits(some(a, z), some(z, a)), ax, true},
		{permits(some(a, z), some(z, a)), z, true},
		{permits(some(none)), none, true}, // all begin with nothing
		{permits(some(none)), ax, true},
		{permits(some(nil)), ax, true},
		{permits(some(none), some(a)), z, false},
		{permits(some()), ax, false}, // a list of none allows none
		{permits(some()), none, false},
		{permits([]api.Name{}), ax, false},
		{permits(nil), ax, false},
		{permits(some(a), some()), ax, false},
		{permits(some(), some(a)), ax, false},
		{api.Space{Permit: [][]api.Name{}, Exclude: []api.Name{}}, ax, true},
		{excludes(a), a, false},
		{excludes(a), ax, false},
		{excludes(a), z, true},
		{excludes(a), none, true},
		{excludes(ab), a, true}, // above what is excluded
		{excludes(ab), name(z[0], ab[0], ab[1]), true},
		{excludes(a), name(org("  A")), false},
		{excludes(a), name(org("aa")), true},
		{excludes(a), name(cn("a")), true},
		{excludes(z, a), ax, false}, // one is enough
		{excludes(a, z), ax, false},
		{excludes(z, a, z), ax, false},
		{excludes(none), ax, false}, // all begin with nothing
		{excludes(none), none, false},
		{excludes(nil), ax, false},
		{api.Space{Permit: [][]api.Name{some(a)}, Exclude: some(ab)}, a, true},
		{api.Space{Permit: [][]api.Name{some(a)}, Exclude: some(ab)}, ax, false},
		{api.Space{Permit: [][]api.Name{some(ab)}, Exclude: some(a)}, ax, false}, // what is excluded is so, whatever permits it
		{api.Space{Permit: [][]api.Name{some(a)}, Exclude: some(a)}, a, false},
		{api.Space{Permit: [][]api.Name{some(a)}, Exclude: some(z)}, ax, true},
		{api.Space{Permit: [][]api.Name{some(a)}, Exclude: some(z)}, z, false},
		{api.Space{Permit: [][]api.Name{some(a)}, Exclude: some(z)}, name(cn("q")), false},
	} {
		if got := subtrees.Allowed(c.s, c.n); got != c.want {
			t.Errorf("%s in %s: %v", short(c.n), short(c.s), got)
		}
		holdAllowed(t, c.s, c.n)
	}
}

// P13.1, S2: what a space has behind it, word by word.
func TestNarrow(t *testing.T) {
	full := api.Space{Permit: [][]api.Name{some(a), some(), some(ab, z)}, Exclude: some(ax, z)}
	for _, c := range []struct {
		s               api.Space
		permit, exclude []api.Name
		want            api.Space
	}{
		{api.Space{}, nil, nil, api.Space{}},
		{api.Space{}, []api.Name{}, []api.Name{}, api.Space{}},
		{api.Space{}, some(a), nil, permits(some(a))},
		{api.Space{}, some(a, z), nil, permits(some(a, z))}, // some are one list, and not as many
		{api.Space{}, some(nil), nil, permits(some(nil))},   // a name of no parts is some
		{api.Space{}, some(api.Name{}), nil, permits(some(nil))},
		{api.Space{}, nil, some(a), excludes(a)},
		{api.Space{}, nil, some(nil), excludes(nil)},
		{api.Space{}, some(a), some(z), api.Space{Permit: [][]api.Name{some(a)}, Exclude: some(z)}},
		{full, nil, nil, full}, // a list of none that is there already stays
		{full, []api.Name{}, []api.Name{}, full},
		{full, some(z, a), some(ab), api.Space{Permit: [][]api.Name{some(a), some(), some(ab, z), some(z, a)}, Exclude: some(ax, z, ab)}},
		{full, some(a), nil, api.Space{Permit: [][]api.Name{some(a), some(), some(ab, z), some(a)}, Exclude: some(ax, z)}}, // as it is there twice
		{full, nil, some(ax, ax), api.Space{Permit: [][]api.Name{some(a), some(), some(ab, z)}, Exclude: some(ax, z, ax, ax)}},
		{permits(some()), some(a), nil, permits(some(), some(a))},
		{excludes(z), some(z), some(z), api.Space{Permit: [][]api.Name{some(z)}, Exclude: some(z, z)}},
		{api.Space{}, some(name(cn(" Ann  LEE "))), some(name(cn("É"))), api.Space{Permit: [][]api.Name{some(name(cn(" Ann  LEE ")))}, Exclude: some(name(cn("É")))}}, // texts are as they were
	} {
		if got := subtrees.Narrow(c.s, c.permit, c.exclude); !oneSpace(got, c.want) {
			t.Errorf("%s with %s and %s: %s", short(c.s), short(c.permit), short(c.exclude), short(got))
		}
		holdNarrow(t, c.s, c.permit, c.exclude, some(nil, a, ab, ax, z))
	}
}

// P13.2, P13.1: narrowed by one after another, as a chain goes.
func TestNarrowedAgain(t *testing.T) {
	asked := some(nil, a, ab, ax, name(org("A "), org("B"), cn("y")), z, name(z[0], ab[0]), name(cn("x")))
	s := api.Space{}
	for i, step := range []struct {
		permit, exclude []api.Name
		allowed         []int // places of those asked
	}{
		{nil, nil, []int{0, 1, 2, 3, 4, 5, 6, 7}},
		{some(a, z), nil, []int{1, 2, 3, 4, 5, 6}},
		{nil, some(ax), []int{1, 2, 4, 5, 6}},
		{some(nil), nil, []int{1, 2, 4, 5, 6}},
		{some(ab, z), nil, []int{2, 4, 5, 6}},
		{some(a, z), nil, []int{2, 4, 5, 6}}, // what is no longer allowed is not allowed again
		{nil, some(name(org("Z"), org("A"))), []int{2, 4, 5}},
		{some(ab), some(z), []int{2, 4}},
		{some(z), nil, nil},
		{some(nil, a, z), nil, nil},
	} {
		s = holdNarrow(t, s, step.permit, step.exclude, asked)
		for at, n := range asked {
			if got := subtrees.Allowed(s, n); got != slices.Contains(step.allowed, at) {
				t.Errorf("behind step %d: %s: %v", i, short(n), got)
			}
		}
	}
	if len(s.Permit) != 7 || len(s.Exclude) != 3 {
		t.Error(short(s))
	}
}

// lists are all lists of some names, each at most once, in their order.
func lists(all []api.Name) [][]api.Name {
	out := [][]api.Name{nil}
	for _, n := range all {
		for _, list := range out {
			out = append(out, append(slices.Clone(list), n))
		}
	}
	return out
}

// shortNames are all of up to so many parts, each of one of two texts.
func shortNames(most int) []api.Name {
	out := some(nil)
	for from := 0; most > 0; most-- {
		to := len(out)
		for _, n := range out[from:to] {
			out = append(out, append(slices.Clone(n), org("a")), append(slices.Clone(n), org("b")))
		}
		from = to
	}
	return out
}

// smallSpaces are all spaces of up to two lists of Permit, and one of Exclude, of such lists.
func smallSpaces(all [][]api.Name) []api.Space {
	permit := [][][]api.Name{nil}
	for _, x := range all {
		permit = append(permit, [][]api.Name{x})
		for _, y := range all {
			permit = append(permit, [][]api.Name{x, y})
		}
	}
	var out []api.Space
	for _, p := range permit {
		for _, e := range all {
			out = append(out, api.Space{Permit: p, Exclude: e})
		}
	}
	return out
}

// P13.1, S1: all short names in all small spaces.
func TestSmallSpaces(t *testing.T) {
	sums := map[bool]int{}
	for _, s := range smallSpaces(lists(some(nil, a, ab, name(org("b"), org("a"))))) {
		for _, n := range shortNames(3) {
			sums[holdAllowed(t, s, n)]++
		}
	}
	if sums[true] < 1000 || sums[false] < 1000 {
		t.Fatal(sums)
	}
}

// P13.2, P13.1: all small spaces, narrowed by all short lists.
func TestSmallSpacesNarrowed(t *testing.T) {
	all := lists(some(nil, a, ab))
	for _, s := range smallSpaces(all) {
		for _, permit := range all {
			for _, exclude := range all {
				holdNarrow(t, s, permit, exclude, some(nil, a, ab, z))
			}
		}
	}
}

// drawText is a text, one of a few, some of which are one when prepared, and some of which are none of a right name's.
func drawText(next func(int) int) string {
	return []string{"a", "A", " a ", "b", "a b", "A  B", "ab", "", " ", "é", "É", "\xff", "\xfe", "\x00"}[next(14)]
}

func drawName(next func(int) int) api.Name {
	var n api.Name
	for range next(4) {
		objects := [][]int{{2, 5, 4, 3}, {2, 5, 4, 3}, {2, 5, 4, 10}, {2, 5, 4}, nil, {-1}}
		n = append(n, attr(drawText(next), objects[next(2+next(5))]...))
	}
	return n
}

func drawList(next func(int) int) []api.Name {
	var list []api.Name
	for range next(5) {
		list = append(list, drawName(next))
	}
	return list
}

func drawSpace(next func(int) int) api.Space {
	var s api.Space
	for range next(4) {
		s.Permit = append(s.Permit, append(drawList(next), drawName(next)))
	}
	if next(10) == 0 {
		s.Permit = append(s.Permit, drawList(next))
	}
	if next(2) == 0 {
		s.Exclude = drawList(next)
	}
	return s
}

// below is a name that begins as another one does, in other words.
func below(next func(int) int, base api.Name) api.Name {
	var n api.Name
	for _, part := range base {
		n = append(n, api.Attr{Oid: part.Oid, Text: strings.ToUpper(part.Text) + " "})
	}
	return append(n, drawName(next)...)
}

// P13.1, P13.2: drawn spaces, names and lists, also such as are not right.
func TestDrawnSpaces(t *testing.T) {
	next := drawn()
	sums := map[bool]int{}
	for range 20000 {
		s := drawSpace(next)
		asked := drawList(next)
		for _, list := range append(s.Permit, s.Exclude) {
			for _, base := range list {
				asked = append(asked, below(next, base))
			}
		}
		got := holdNarrow(t, s, drawList(next), drawList(next), asked)
		for _, n := range asked {
			sums[subtrees.Allowed(got, n)]++
		}
	}
	if sums[true] < 1000 || sums[false] < 1000 {
		t.Fatal(sums)
	}
}

// P13.1: names that are not right are held against others too, and stay as they are.
func TestNamesThatAreNotRight(t *testing.T) {
	long := strings.Repeat("x", 65)
	for _, n := range []api.Name{
		{{}}, {{Text: "a"}}, {{Oid: []int{2}}}, {{Oid: []int{3, 1}, Text: "a"}}, name(attr("a", -1, math.MinInt, math.MaxInt)),
		name(cn("\xff")), name(cn("a\xc3")), name(cn(long)), slices.Repeat(a, 9), make(api.Name, 9), name(attr("a", slices.Repeat([]int{1}, 100)...)),
	} {
		other := slices.Concat(n[:len(n)-1], name(ou("else")))
		for _, s := range []api.Space{permits(some(n)), excludes(n)} {
			if allowed := len(s.Permit) == 1; subtrees.Allowed(s, n) != allowed || subtrees.Allowed(s, other) == allowed || subtrees.Allowed(s, append(slices.Clone(n), cn("a"))) != allowed {
				t.Errorf("%s in %s", short(n), short(s))
			}
		}
		got := holdNarrow(t, api.Space{}, some(n, n), some(n), some(n, other))
		holdNarrow(t, got, some(other), some(other), some(n, other))
	}
}

// P1: spaces of very many lists, names, parts, arcs, and long texts.
func TestCallsEnd(t *testing.T) {
	text := name(org(strings.Repeat("Ab ", 1<<20)))
	many := slices.Repeat(some(z), 1<<16)
	wide := slices.Repeat(a, 1<<18)
	arcs := name(attr("a", slices.Repeat([]int{1}, 1<<20)...))
	for _, s := range []api.Space{permits(some(text)), permits(some(wide)), permits(some(arcs)), excludes(wide, arcs, text)} {
		for _, n := range some(nil, a, z, text, wide, arcs) {
			holdAllowed(t, s, n)
		}
	}
	for _, s := range []api.Space{
		permits(append(slices.Clone(many), a)), excludes(many...),
		permits(slices.Repeat([][]api.Name{some(a)}, 1<<16)...), permits(slices.Repeat([][]api.Name{nil}, 1<<16)...),
	} {
		for _, n := range some(nil, a, z, wide, arcs) { // a long text is prepared each time it is asked
			holdAllowed(t, s, n)
		}
	}
	for _, list := range [][]api.Name{many, some(wide), some(arcs), some(text)} {
		s := subtrees.Narrow(permits(list), list, list)
		s = subtrees.Narrow(s, list, list)
		if !slices.EqualFunc(s.Permit, [][]api.Name{list, list, list}, oneList) || !oneList(s.Exclude, slices.Concat(list, list)) {
			t.Fatal(short(list))
		}
	}
}

// whole is a list with its spare room, roomy one with spare room behind it, filled with what stands there.
func whole[T any](list []T) []T { return list[:cap(list)] }

func roomy[T any](list []T, behind T) []T {
	out := append(make([]T, 0, len(list)+4), list...)
	for i := len(list); i < cap(out); i++ {
		out[:cap(out)][i] = behind
	}
	return out
}

// roomyNames are names with spare room in each of their lists, in which stands what would change what is allowed.
func roomyNames(list []api.Name, behind api.Name) []api.Name {
	var out []api.Name
	for _, n := range list {
		var parts api.Name
		for _, part := range n {
			parts = append(parts, api.Attr{Oid: roomy(part.Oid, 77), Text: part.Text})
		}
		out = append(out, roomy(parts, cn("spare")))
	}
	return roomy(out, behind)
}

// roomySpace is a space of lists with spare room, and what it is without.
func roomySpace() (api.Space, api.Space) {
	plain := api.Space{Permit: [][]api.Name{some(a, z), some(), some(ab, name(cn("q"), ou("r")))}, Exclude: some(ax, z)}
	var s api.Space
	for _, list := range plain.Permit {
		s.Permit = append(s.Permit, roomyNames(list, nil))
	}
	s.Permit, s.Exclude = roomy(s.Permit, some()), roomyNames(plain.Exclude, nil)
	return s, plain
}

// toldNames are all that lies in names, their spare room too; told is all of a space.
func toldNames(list []api.Name) string {
	var b strings.Builder
	for _, n := range whole(list) {
		for _, part := range whole(n) {
			fmt.Fprint(&b, whole(part.Oid), len(part.Oid), part.Text)
		}
		fmt.Fprint(&b, len(n), ";")
	}
	fmt.Fprint(&b, len(list), "\n")
	return b.String()
}

func told(s api.Space) string {
	var b strings.Builder
	for _, list := range whole(s.Permit) {
		b.WriteString(toldNames(list))
	}
	fmt.Fprint(&b, len(s.Permit), "\n", toldNames(s.Exclude))
	return b.String()
}

// apart writes over all lists of names of a space, their spare room too; it tells whether no two of one kind share any.
func apart(s api.Space) bool {
	var arcs [][]int
	var parts [][]api.Attr
	var all [][]api.Name
	for _, list := range append(slices.Clone(whole(s.Permit)), s.Exclude) {
		all = append(all, whole(list))
		for _, n := range list {
			parts = append(parts, whole(n))
			for _, part := range n {
				arcs = append(arcs, whole(part.Oid))
			}
		}
	}
	clear(whole(s.Permit))
	good := mine(arcs, func(i int) int { return 1000 + i }, func(x, y int) bool { return x == y })
	good = mine(parts, gone, func(x, y api.Attr) bool { return x.Text == y.Text }) && good
	return mine(all, func(i int) api.Name { return name(gone(i)) }, oneName) && good
}

// gone is a part that no name of these tests has.
func gone(i int) api.Attr { return cn(fmt.Sprint("gone ", i)) }

// mine writes into each of some lists what is that list's own, and tells whether it stands there when all are written.
func mine[T any](all [][]T, own func(int) T, same func(T, T) bool) bool {
	for i, list := range all {
		for j := range list {
			list[j] = own(i)
		}
	}
	for i, list := range all {
		if slices.ContainsFunc(list, func(x T) bool { return !same(x, own(i)) }) {
			return false
		}
	}
	return true
}

// P3: what is handed in to Narrow is not changed, nor its spare room, nor kept; what comes out is new memory.
func TestNarrowTakesNothing(t *testing.T) {
	for _, permit := range [][]api.Name{nil, some(ab), some(a, z)} {
		for _, exclude := range [][]api.Name{nil, some(ax), some(name(cn("q")), nil)} {
			s, plain := roomySpace()
			in, out := roomyNames(permit, a), roomyNames(exclude, a)
			kept := told(s) + toldNames(in) + toldNames(out)
			unchanged := func() bool { return told(s)+toldNames(in)+toldNames(out) == kept }
			want := narrowAsTold(plain, permit, exclude)
			got := subtrees.Narrow(s, in, out)
			again := subtrees.Narrow(s, in, out)
			if !oneSpace(got, want) || !oneSpace(again, want) || !unchanged() {
				t.Fatalf("%s, and then %s, not %s", short(got), short(again), short(want))
			}
			if !apart(got) {
				t.Fatal("two lists of the space lie in one another")
			}
			if !unchanged() || !oneSpace(again, want) {
				t.Fatal("the space lies in what was handed in, or in others")
			}
			apart(s)
			apart(api.Space{Permit: [][]api.Name{in}, Exclude: out})
			if !oneSpace(again, want) {
				t.Fatal("what was handed in lies in the space")
			}
		}
	}
}

// P3: one list handed in for both, or one that the space has already, is not shared in what comes out.
func TestNarrowByWhatIsThere(t *testing.T) {
	list := roomyNames(some(a, ab), z)
	s := api.Space{Permit: [][]api.Name{list, list}, Exclude: list}
	got := subtrees.Narrow(s, list, list)
	if want := narrowAsTold(s, list, list); !oneSpace(got, want) || len(got.Permit) != 3 || len(got.Exclude) != 4 {
		t.Fatal(short(got))
	}
	if !apart(got) || !oneList(list, some(a, ab)) {
		t.Fatal("lists lie in one another")
	}
}

// P3, P13.2: two that are narrowed of one space, and of a narrowed one, know nothing of each other.
func TestTwoOfOneSpace(t *testing.T) {
	s := api.Space{}
	for i := range 20 {
		before := told(s)
		one := subtrees.Narrow(s, some(a), some(ax))
		two := subtrees.Narrow(s, some(z), some(name(z[0], a[0])))
		if told(s) != before || len(one.Permit) != i+1 || len(two.Exclude) != i+1 {
			t.Fatal(i, short(s))
		}
		if !subtrees.Allowed(one, ab) || subtrees.Allowed(one, ax) || subtrees.Allowed(one, z) {
			t.Fatal(i, short(one))
		}
		if i == 0 && (!subtrees.Allowed(two, z) || subtrees.Allowed(two, ab)) || subtrees.Allowed(two, name(z[0], a[0])) {
			t.Fatal(i, short(two))
		}
		s = one
	}
}

// P3: Allowed asks and does nothing else; what stands in spare room is none of a space's, nor of a name's.
func TestAllowedTakesNothing(t *testing.T) {
	s := permits(roomyNames(some(a, ab), nil))
	s.Permit, s.Exclude = roomy(s.Permit, nil), roomyNames(some(ax), nil)
	n := roomyNames(some(name(org("a"), org("b"), cn("y"))), nil)[0]
	kept, name := told(s), toldNames(some(n))
	for range 2 {
		if !subtrees.Allowed(s, n) || !subtrees.Allowed(s, n[:2]) || subtrees.Allowed(s, z) || subtrees.Allowed(s, ax) || subtrees.Allowed(s, n[:0]) {
			t.Fatal("spare room is asked")
		}
		if told(s) != kept || toldNames(some(n)) != name {
			t.Fatal("what was asked has changed")
		}
	}
}

func ExampleAllowed() {
	o := func(texts ...string) api.Name {
		var n api.Name
		for _, text := range texts {
			n = append(n, api.Attr{Oid: []int{2, 5, 4, 10}, Text: text})
		}
		return n
	}
	s := api.Space{Permit: [][]api.Name{{o("a")}, {o("a", "b")}}}
	fmt.Println(subtrees.Allowed(api.Space{}, o("a")), subtrees.Allowed(s, o("a", "b", "x")), subtrees.Allowed(s, o("a")))
	// Output: true true false
}

func ExampleNarrow() {
	acme := api.Name{{Oid: []int{2, 5, 4, 10}, Text: "Acme"}}
	ann := append(acme[:1:1], api.Attr{Oid: []int{2, 5, 4, 3}, Text: "Ann"})
	s := subtrees.Narrow(api.Space{}, []api.Name{acme}, nil)
	fmt.Println(subtrees.Allowed(s, ann), subtrees.Allowed(s, ann[1:]))
	s = subtrees.Narrow(s, nil, []api.Name{ann})
	fmt.Println(subtrees.Allowed(s, ann), subtrees.Allowed(s, acme))
	// Output:
	// true false
	// false true
}
