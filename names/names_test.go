package names_test

import (
	"bytes"
	"fmt"
	"math"
	"slices"
	"strings"
	"testing"
	"unicode/utf8"

	"warder/api"
	"warder/ints"
	"warder/names"
	"warder/nodes"
	"warder/texts"
)

// drawn tells numbers that look drawn, and are the same each time.
func drawn() func(below int) int {
	state := uint64(1)
	return func(below int) int {
		state = state*6364136223846793005 + 1442695040888963407
		return int(state>>33) % below
	}
}

func leaf(tag byte, body string) api.Node { return api.Node{Tag: tag, Body: []byte(body)} }

func over(tag byte, kids ...api.Node) api.Node { return api.Node{Tag: tag, Kids: kids} }

func seq(kids ...api.Node) api.Node { return over(api.TagSeq, kids...) }

func attr(text string, arcs ...int) api.Attr { return api.Attr{Oid: arcs, Text: text} }

// cn and org are parts of two objects.
func cn(text string) api.Attr { return attr(text, 2, 5, 4, 3) }

func org(text string) api.Attr { return attr(text, 2, 5, 4, 10) }

func name(parts ...api.Attr) api.Name { return parts }

// short is how a name is told where something is wrong.
func short(n api.Name) string {
	s := fmt.Sprintf("%#v", n)
	return s[:min(len(s), 300)]
}

func princ(realm string, parts ...string) api.Princ { return api.Princ{Realm: realm, Names: parts} }

// cnNode and orgNode are their nodes, written without the program's help.
func cnNode(text string) api.Node {
	return seq(leaf(api.TagOID, "\x55\x04\x03"), leaf(api.TagUTF8, text))
}

func orgNode(text string) api.Node {
	return seq(leaf(api.TagOID, "\x55\x04\x0a"), leaf(api.TagUTF8, text))
}

// princNode is a principal's node, of any texts.
func princNode(realm string, parts ...string) api.Node {
	all := seq()
	for _, s := range parts {
		all.Kids = append(all.Kids, leaf(api.TagGeneral, s))
	}
	return seq(leaf(api.TagGeneral, realm), all)
}

// one: are two nodes one, be their empty lists nil or not?
func one(a, b api.Node) bool {
	return a.Tag == b.Tag && bytes.Equal(a.Body, b.Body) && slices.EqualFunc(a.Kids, b.Kids, one)
}

func zero(n api.Node) bool { return n.Tag == 0 && len(n.Body) == 0 && len(n.Kids) == 0 }

// oneName: are two names one, byte by byte?
func oneName(a, b api.Name) bool {
	return slices.EqualFunc(a, b, func(x, y api.Attr) bool { return slices.Equal(x.Oid, y.Oid) && x.Text == y.Text })
}

func onePrinc(a, b api.Princ) bool { return a.Realm == b.Realm && slices.Equal(a.Names, b.Names) }

func zeroPrinc(p api.Princ) bool { return p.Realm == "" && len(p.Names) == 0 }

// nameAsTold is a right name's node, by the section Types.
func nameAsTold(n api.Name) (api.Node, api.Errno) {
	out := seq()
	if len(n) > 8 {
		return api.Node{}, api.ErrName
	}
	for _, a := range n {
		oid, e := ints.PutOID(a.Oid)
		if e != api.OK || !utf8.ValidString(a.Text) || len(a.Text) > 64 {
			return api.Node{}, api.ErrName
		}
		out.Kids = append(out.Kids, seq(leaf(0x06, string(oid)), leaf(0x0c, a.Text)))
	}
	return out, api.OK
}

// nameOfNode is the right name whose node one is, part by part.
func nameOfNode(n api.Node) (api.Name, api.Errno) {
	var out api.Name
	if n.Tag != 0x30 || len(n.Body) != 0 || len(n.Kids) > 8 {
		return nil, api.ErrName
	}
	for _, kid := range n.Kids {
		if kid.Tag != 0x30 || len(kid.Body) != 0 || len(kid.Kids) != 2 {
			return nil, api.ErrName
		}
		oid, text := kid.Kids[0], kid.Kids[1]
		if oid.Tag != 0x06 || len(oid.Kids) != 0 || text.Tag != 0x0c || len(text.Kids) != 0 {
			return nil, api.ErrName
		}
		arcs, e := ints.OID(oid.Body)
		if e != api.OK || !utf8.Valid(text.Body) || len(text.Body) > 64 {
			return nil, api.ErrName
		}
		out = append(out, api.Attr{Oid: arcs, Text: string(text.Body)})
	}
	return out, api.OK
}

// wordAsTold: may a principal's Realm be this, or one of its Names?
func wordAsTold(s string) bool {
	for i := range len(s) {
		if s[i] < 0x20 || s[i] > 0x7e {
			return false
		}
	}
	return len(s) >= 1 && len(s) <= 64
}

// princAsTold is a right principal's node, by the section Types.
func princAsTold(p api.Princ) (api.Node, api.Errno) {
	right := len(p.Names) >= 1 && len(p.Names) <= 8 && wordAsTold(p.Realm)
	for _, s := range p.Names {
		right = right && wordAsTold(s)
	}
	if !right {
		return api.Node{}, api.ErrName
	}
	return princNode(p.Realm, p.Names...), api.OK
}

// princOfNode is the right principal whose node one is, part by part.
func princOfNode(n api.Node) (api.Princ, api.Errno) {
	if n.Tag != 0x30 || len(n.Body) != 0 || len(n.Kids) != 2 {
		return api.Princ{}, api.ErrName
	}
	realm, all := n.Kids[0], n.Kids[1]
	if all.Tag != 0x30 || len(all.Body) != 0 || len(all.Kids) < 1 || len(all.Kids) > 8 {
		return api.Princ{}, api.ErrName
	}
	for _, x := range append([]api.Node{realm}, all.Kids...) {
		if x.Tag != 0x1b || len(x.Kids) != 0 || !wordAsTold(string(x.Body)) {
			return api.Princ{}, api.ErrName
		}
	}
	out := api.Princ{Realm: string(realm.Body)}
	for _, x := range all.Kids {
		out.Names = append(out.Names, string(x.Body))
	}
	return out, api.OK
}

// holdName: its node is as told, is a right node, and is read as it was.
func holdName(t *testing.T, n api.Name) {
	t.Helper()
	got, e := names.Put(n)
	want, wrong := nameAsTold(n)
	if e != wrong || !one(got, want) {
		t.Fatalf("%s: put %.200x %v, not %.200x %v", short(n), got, e, want, wrong)
	}
	if e != api.OK {
		return
	}
	if e := nodes.Check(got); e != api.OK {
		t.Fatalf("%s: its node %x is checked %v", short(n), got, e)
	}
	if again, e := names.Get(got); e != api.OK || !oneName(again, n) {
		t.Fatalf("%s: put %x, and got %s %v", short(n), got, short(again), e)
	}
}

func holdPrinc(t *testing.T, p api.Princ) {
	t.Helper()
	got, e := names.PutPrinc(p)
	want, wrong := princAsTold(p)
	if e != wrong || !one(got, want) {
		t.Fatalf("%.200q: put %.200x %v, not %.200x %v", p, got, e, want, wrong)
	}
	if e != api.OK {
		return
	}
	if e := nodes.Check(got); e != api.OK {
		t.Fatalf("%q: its node %x is checked %v", p, got, e)
	}
	if again, e := names.GetPrinc(got); e != api.OK || !onePrinc(again, p) {
		t.Fatalf("%q: put %x, and got %q %v", p, got, again, e)
	}
}

// holdNode: as a name and as a principal it is read as told, and put as it stood. It tells whether it is either.
func holdNode(t *testing.T, n api.Node) bool {
	t.Helper()
	got, e := names.Get(n)
	want, wrong := nameOfNode(n)
	if e != wrong || !oneName(got, want) {
		t.Fatalf("%.200x: got %s %v, not %s %v", n, short(got), e, short(want), wrong)
	}
	if again, f := names.Put(got); e == api.OK && (f != api.OK || !one(again, n)) {
		t.Fatalf("%x: got %s, and put %x %v", n, short(got), again, f)
	}
	p, f := names.GetPrinc(n)
	wantPrinc, wrongPrinc := princOfNode(n)
	if f != wrongPrinc || !onePrinc(p, wantPrinc) {
		t.Fatalf("%.200x: got %q %v, not %q %v", n, p, f, wantPrinc, wrongPrinc)
	}
	if again, g := names.PutPrinc(p); f == api.OK && (g != api.OK || !one(again, n)) {
		t.Fatalf("%x: got %q, and put %x %v", n, p, again, g)
	}
	return e == api.OK || f == api.OK
}

var (
	long  = strings.Repeat("x", 64)
	wide  = strings.Repeat("é", 32) // of 64 bytes
	whole = api.Attr{Oid: slices.Repeat([]int{1}, 16), Text: long}
)

// P9.1, P9.2, M1: right names, their nodes, and these nodes' bytes.
func TestNamesAndTheirNodes(t *testing.T) {
	for _, c := range []struct {
		n    api.Name
		node api.Node
		b    string
	}{
		{nil, seq(), "\x30\x00"},
		{name(), seq(), "\x30\x00"},
		{name(cn("Ann")), seq(cnNode("Ann")), "\x30\x0c\x30\x0a\x06\x03\x55\x04\x03\x0c\x03Ann"},
		{name(cn("")), seq(cnNode("")), "\x30\x09\x30\x07\x06\x03\x55\x04\x03\x0c\x00"},
		{name(cn("é")), seq(cnNode("é")), "\x30\x0b\x30\x09\x06\x03\x55\x04\x03\x0c\x02\xc3\xa9"},
		{name(cn("\x00\n")), seq(cnNode("\x00\n")), "\x30\x0b\x30\x09\x06\x03\x55\x04\x03\x0c\x02\x00\x0a"},
		{name(cn(" Ann  LEE ")), seq(cnNode(" Ann  LEE ")), "\x30\x13\x30\x11\x06\x03\x55\x04\x03\x0c\x0a Ann  LEE "}, // as it is, not prepared
		{name(org("a"), cn("b")), seq(orgNode("a"), cnNode("b")), "\x30\x14\x30\x08\x06\x03\x55\x04\x0a\x0c\x01a\x30\x08\x06\x03\x55\x04\x03\x0c\x01b"},
		{name(cn("b"), org("a")), seq(cnNode("b"), orgNode("a")), "\x30\x14\x30\x08\x06\x03\x55\x04\x03\x0c\x01b\x30\x08\x06\x03\x55\x04\x0a\x0c\x01a"},
		{name(cn("b"), cn("b")), seq(cnNode("b"), cnNode("b")), "\x30\x14\x30\x08\x06\x03\x55\x04\x03\x0c\x01b\x30\x08\x06\x03\x55\x04\x03\x0c\x01b"},
		{name(attr("a", 1, 2, 840)), seq(seq(leaf(api.TagOID, "\x2a\x86\x48"), leaf(api.TagUTF8, "a"))), "\x30\x0a\x30\x08\x06\x03\x2a\x86\x48\x0c\x01a"},
		{name(attr("a", 0, 0)), seq(seq(leaf(api.TagOID, "\x00"), leaf(api.TagUTF8, "a"))), "\x30\x08\x30\x06\x06\x01\x00\x0c\x01a"},
		{name(cn(long)), seq(cnNode(long)), "\x30\x49\x30\x47\x06\x03\x55\x04\x03\x0c\x40" + long},
		{name(cn(wide)), seq(cnNode(wide)), "\x30\x49\x30\x47\x06\x03\x55\x04\x03\x0c\x40" + wide},
		{slices.Repeat(name(cn("")), 8), over(api.TagSeq, slices.Repeat([]api.Node{cnNode("")}, 8)...), "\x30\x48" + strings.Repeat("\x30\x07\x06\x03\x55\x04\x03\x0c\x00", 8)},
	} {
		got, e := names.Put(c.n)
		if e != api.OK || !one(got, c.node) {
			t.Errorf("%s: put %x %v, not %x", short(c.n), got, e, c.node)
		}
		if b, e := nodes.Print(got); e != api.OK || string(b) != c.b {
			t.Errorf("%s: printed %x %v, not %x", short(c.n), b, e, c.b)
		}
		parsed, _, e := nodes.Parse([]byte(c.b))
		if got, f := names.Get(parsed); e != api.OK || f != api.OK || !oneName(got, c.n) {
			t.Errorf("%x: got %s %v %v, not %s", c.b, short(got), e, f, short(c.n))
		}
		holdName(t, c.n)
		holdNode(t, c.node)
	}
	for n := range 9 { // whatever is greatest in a name
		holdName(t, slices.Repeat(name(whole), n))
		if _, e := names.Put(slices.Repeat(name(whole), n)); e != api.OK {
			t.Error(n, e)
		}
	}
}

// wrongAttrs are parts that no right name has.
func wrongAttrs() []api.Attr {
	all := []api.Attr{{}, {Text: "a"}, {Oid: []int{}, Text: "a"}}
	for _, arcs := range [][]int{
		{2}, {0}, {3, 1}, {-1, 1}, {2, -1}, {0, 40}, {1, 40}, {1, 1, -1}, {1, 1, 1 << 28}, {2, 1<<28 - 80}, {2, 1<<28 - 1}, {2, 1 << 28},
		{math.MaxInt, 1}, {math.MinInt, 1}, {1, math.MaxInt}, {1, math.MinInt}, {1, 1, math.MaxInt}, {1, 1, math.MinInt}, slices.Repeat([]int{1}, 17), slices.Repeat([]int{1}, 1000),
	} {
		all = append(all, attr("a", arcs...), attr("", arcs...))
	}
	for _, text := range []string{
		long + "x", strings.Repeat("x", 1<<16), "é" + long[1:], wide + "x", strings.Repeat("é", 33), strings.Repeat("é", 64),
		"\xff", "\x80", "a\xffb", "\xc3", "Ann\xc3", "\xc0\x80", "\xed\xa0\x80", "\xf4\x90\x80\x80", "\xa9\xc3", long[1:] + "\xff", wide[1:],
	} {
		all = append(all, cn(text))
	}
	return all
}

// P9.1, M1, P2: names that are not right, be the part that is wrong the only one, the first or the last one.
func TestNamesAreRefused(t *testing.T) {
	refused := func(n api.Name) {
		t.Helper()
		if got, e := names.Put(n); e != api.ErrName || !zero(got) {
			t.Errorf("%s: %x %v", short(n), got, e)
		}
		holdName(t, n)
	}
	for _, a := range wrongAttrs() {
		refused(name(a))
		for at := range 8 {
			n := slices.Repeat(name(org("a")), 8)
			n[at] = a
			refused(n)
			refused(n[:at+1])
		}
		refused(slices.Repeat(name(a), 9))
	}
	for _, n := range []int{9, 10, 16, 17, 256, 1000} {
		refused(slices.Repeat(name(cn("a")), n))
		refused(make(api.Name, n))
	}
}

// P9.1, M1: which objects may be is layer 2's alone.
func TestNamesOfAllObjects(t *testing.T) {
	arcs := []int{-1, 0, 1, 2, 3, 39, 40, 79, 80, 127, 128, 1<<28 - 81, 1<<28 - 80, 1<<28 - 1, 1 << 28}
	for _, a := range arcs {
		for _, b := range arcs {
			holdName(t, name(attr("a", a, b)))
			for _, c := range arcs {
				holdName(t, name(attr("a", a, b, c)))
			}
		}
	}
	for n := range 20 {
		holdName(t, name(attr("a", slices.Repeat([]int{1}, n)...), cn("b")))
		holdName(t, name(cn("b"), attr("a", slices.Repeat([]int{1<<28 - 1}, n)...)))
		big := slices.Repeat([]int{1<<28 - 1}, n+1)
		big[0] = 2
		holdName(t, name(attr("a", append([]int{2, 5}, big...)...)))
	}
}

// P9.1, M1: texts of all lengths about the bound, and of all bytes and runes, somewhere in them.
func TestTextsOfNames(t *testing.T) {
	for n := range 200 {
		for _, s := range []string{"x", "é", "€", "\U0001f600", "\x00", "\xff"} {
			holdName(t, name(cn(strings.Repeat(s, n))))
			holdName(t, name(org("a"), cn(strings.Repeat(s, n)+"x")))
		}
	}
	for x := range 0x100 {
		s := string([]byte{byte(x)})
		for _, text := range []string{s, s + s, "a" + s, s + "a", "a" + s + "a", "é" + s, s + "é", "\xc3" + s, "\xe2\x82" + s, long[1:] + s, long + s} {
			holdName(t, name(cn(text)))
			holdNode(t, seq(cnNode(text)))
		}
		for y := range 0x100 {
			holdName(t, name(cn(string([]byte{byte(x), byte(y)}))))
		}
	}
	for _, r := range []rune{0, 0x7f, 0x80, 0x7ff, 0x800, 0xd7ff, 0xe000, 0xfeff, 0xfffd, 0xffff, 0x10000, utf8.MaxRune} {
		holdName(t, name(cn(string(r))))
		if _, e := names.Put(name(cn(string(r)))); e != api.OK {
			t.Errorf("%x: %v", r, e)
		}
	}
}

// P9.1, P9.2, M1: right principals, their nodes, and these nodes' bytes.
func TestPrincsAndTheirNodes(t *testing.T) {
	for _, c := range []struct {
		p    api.Princ
		node api.Node
		b    string
	}{
		{princ("R", "ann"), princNode("R", "ann"), "\x30\x0a\x1b\x01R\x30\x05\x1b\x03ann"},
		{princ("R", "krbtgt", "R"), princNode("R", "krbtgt", "R"), "\x30\x10\x1b\x01R\x30\x0b\x1b\x06krbtgt\x1b\x01R"},
		{princ("R", "R", "krbtgt"), princNode("R", "R", "krbtgt"), "\x30\x10\x1b\x01R\x30\x0b\x1b\x01R\x1b\x06krbtgt"},
		{princ("R", "a", "a"), princNode("R", "a", "a"), "\x30\x0b\x1b\x01R\x30\x06\x1b\x01a\x1b\x01a"},
		{princ(" ", "~"), princNode(" ", "~"), "\x30\x08\x1b\x01\x20\x30\x03\x1b\x01\x7e"},
		{princ(`@/\`, `\/@`), princNode(`@/\`, `\/@`), "\x30\x0c\x1b\x03@/\\\x30\x05\x1b\x03\\/@"},
		{princ("  Ann  LEE ", "ann lee"), princNode("  Ann  LEE ", "ann lee"), "\x30\x18\x1b\x0b  Ann  LEE \x30\x09\x1b\x07ann lee"},
		{princ("R", slices.Repeat([]string{"a"}, 8)...), princNode("R", slices.Repeat([]string{"a"}, 8)...), "\x30\x1d\x1b\x01R\x30\x18" + strings.Repeat("\x1b\x01a", 8)},
		{princ(long, long), princNode(long, long), "\x30\x81\x86\x1b\x40" + long + "\x30\x42\x1b\x40" + long},
	} {
		got, e := names.PutPrinc(c.p)
		if e != api.OK || !one(got, c.node) {
			t.Errorf("%q: put %x %v, not %x", c.p, got, e, c.node)
		}
		if b, e := nodes.Print(got); e != api.OK || string(b) != c.b {
			t.Errorf("%q: printed %x %v, not %x", c.p, b, e, c.b)
		}
		parsed, _, e := nodes.Parse([]byte(c.b))
		if got, f := names.GetPrinc(parsed); e != api.OK || f != api.OK || !onePrinc(got, c.p) {
			t.Errorf("%x: got %q %v %v, not %q", c.b, got, e, f, c.p)
		}
		holdPrinc(t, c.p)
		holdNode(t, c.node)
	}
	for n := 1; n < 9; n++ {
		if _, e := names.PutPrinc(princ(long, slices.Repeat([]string{long}, n)...)); e != api.OK {
			t.Error(n, e)
		}
		holdPrinc(t, princ(long, slices.Repeat([]string{long}, n)...))
	}
}

// P9.1, M1, P2: principals that are not right, wherever in them that stands.
func TestPrincsAreRefused(t *testing.T) {
	refused := func(p api.Princ) {
		t.Helper()
		if got, e := names.PutPrinc(p); e != api.ErrName || !zero(got) {
			t.Errorf("%.100q: %x %v", p, got, e)
		}
		holdPrinc(t, p)
	}
	refused(api.Princ{})
	refused(princ("R"))
	refused(princ("", "a"))
	refused(api.Princ{Realm: "R", Names: []string{}})
	for _, n := range []int{9, 10, 16, 256, 1000} {
		refused(princ("R", slices.Repeat([]string{"a"}, n)...))
		refused(princ("R", make([]string, n)...))
	}
	for _, s := range []string{"", long + "x", strings.Repeat("x", 1<<16), "\x1f", "\x7f", "\x00", "\n", "\t", "a\x00", "\x00a", "é", "a\xff", "\x80", "€", "\u00a0", long[1:] + "\x7f"} {
		refused(princ(s, "a"))
		refused(princ(s))
		refused(princ(s, s))
		for at := range 8 {
			all := slices.Repeat([]string{"a"}, 8)
			all[at] = s
			refused(princ("R", all...))
			refused(princ("R", all[:at+1]...))
		}
	}
}

// P9.1, M1: words of all lengths about the bounds, and of all bytes, somewhere in them.
func TestWordsOfPrincs(t *testing.T) {
	for n := range 200 {
		s := strings.Repeat("x", n)
		for _, p := range []api.Princ{princ(s, "a"), princ("R", s), princ("R", "a", s), princ("R", s, "a"), princ(s, s)} {
			holdPrinc(t, p)
			holdNode(t, princNode(p.Realm, p.Names...))
		}
	}
	for x := range 0x100 {
		s := string([]byte{byte(x)})
		for _, word := range []string{s, s + s, "a" + s, s + "a", "a" + s + "a", long[1:] + s, s + long[1:], long + s} {
			for _, p := range []api.Princ{princ(word, "a"), princ("R", word), princ("R", "a", word), princ("R", word, "a")} {
				holdPrinc(t, p)
				holdNode(t, princNode(p.Realm, p.Names...))
			}
		}
	}
}

// wrongNodes are near the nodes of names and principals, and are neither's.
func wrongNodes() map[string]api.Node {
	oid, text, word := leaf(api.TagOID, "\x55\x04\x03"), leaf(api.TagUTF8, "a"), leaf(api.TagGeneral, "a")
	null := leaf(api.TagNull, "")
	bodied := func(n api.Node) api.Node { n.Body = []byte{0}; return n }
	with := func(n api.Node, kids ...api.Node) api.Node { n.Kids = kids; return n }
	return map[string]api.Node{
		"nothing":                  {},
		"null":                     null,
		"a leaf":                   text,
		"a set":                    over(api.TagSet, cnNode("a")),
		"an empty set":             over(api.TagSet),
		"another sequence":         over(0xa0, cnNode("a")),
		"no compound":              leaf(0x10, ""),
		"a body":                   bodied(seq()),
		"a body and a part":        bodied(seq(cnNode("a"))),
		"a part that is none":      seq(null),
		"a part that is nothing":   seq(api.Node{}),
		"an empty part":            seq(seq()),
		"a part of an object":      seq(seq(oid)),
		"a part of a text":         seq(seq(text)),
		"a part turned round":      seq(seq(text, oid)),
		"a part of three":          seq(seq(oid, text, text)),
		"a part of four":           seq(seq(oid, text, oid, text)),
		"a part of two objects":    seq(seq(oid, oid)),
		"a part of two texts":      seq(seq(text, text)),
		"a part that is a set":     seq(over(api.TagSet, oid, text)),
		"a part with a body":       seq(bodied(cnNode("a"))),
		"parts without a sequence": seq(oid, text),
		"a part too deep":          seq(seq(cnNode("a"))),
		"an object with kids":      seq(seq(with(oid, null), text)),
		"a text with kids":         seq(seq(oid, with(text, null))),
		"a text of another tag":    seq(seq(oid, leaf(api.TagPrintable, "a"))),
		"a text of a third tag":    seq(seq(oid, word)),
		"a text that is bytes":     seq(seq(oid, leaf(api.TagOctets, "a"))),
		"an object of another tag": seq(seq(leaf(api.TagOctets, "\x55\x04\x03"), text)),
		"an object of a mark":      seq(seq(leaf(0x86, "\x55\x04\x03"), text)),
		"an empty object":          seq(seq(leaf(api.TagOID, ""), text)),
		"an object cut off":        seq(seq(leaf(api.TagOID, "\x55\x84"), text)),
		"an object too long":       seq(seq(leaf(api.TagOID, "\x55\x80\x03"), text)),
		"an object too great":      seq(seq(leaf(api.TagOID, "\x55\x81\x80\x80\x80\x00"), text)),
		"an object of 17":          seq(seq(leaf(api.TagOID, strings.Repeat("\x29", 16)), text)),
		"a text of no runes":       seq(cnNode("\xff")),
		"a long text":              seq(cnNode(long + "x")),
		"one part that is wrong":   seq(cnNode("a"), orgNode("b"), seq(oid)),
		"nine parts":               seq(slices.Repeat([]api.Node{cnNode("a")}, 9)...),
		"many parts":               seq(slices.Repeat([]api.Node{cnNode("a")}, 1<<16)...),

		"no names":                princNode("R"),
		"no realm":                seq(seq(word)),
		"a realm alone":           seq(word),
		"an empty realm":          princNode("", "a"),
		"an empty name":           princNode("R", "a", ""),
		"nine names":              princNode("R", slices.Repeat([]string{"a"}, 9)...),
		"many names":              princNode("R", slices.Repeat([]string{"a"}, 1<<16)...),
		"a long realm":            princNode(long+"x", "a"),
		"a long name":             princNode("R", long+"x"),
		"a realm of other bytes":  princNode("\x7f", "a"),
		"a name of other bytes":   princNode("R", "\x1f"),
		"a name of great bytes":   princNode("R", "é"),
		"turned round":            seq(seq(word), word),
		"names without a list":    seq(word, word),
		"three":                   seq(word, seq(word), word),
		"two lists":               seq(word, seq(word), seq(word)),
		"a principal's set":       over(api.TagSet, word, seq(word)),
		"a set of names":          seq(word, over(api.TagSet, word)),
		"a principal's body":      bodied(princNode("R", "a")),
		"a list's body":           seq(word, bodied(seq(word))),
		"a realm with kids":       seq(with(word, null), seq(word)),
		"a name with kids":        seq(word, seq(with(word, null))),
		"a realm of another tag":  seq(text, seq(word)),
		"a name of another tag":   seq(word, seq(word, text)),
		"a printable realm":       seq(leaf(api.TagPrintable, "a"), seq(word)),
		"a name of IA5":           seq(word, seq(leaf(api.TagIA5, "a"))),
		"a name of bytes":         seq(word, seq(leaf(api.TagOctets, "a"))),
		"a realm that is a list":  seq(seq(word), seq(word)),
		"names within names":      seq(word, seq(seq(word))),
		"a principal in a list":   seq(princNode("R", "a")),
		"a realm that is nothing": seq(api.Node{}, seq(word)),
		"a name that is nothing":  seq(word, seq(api.Node{})),
		"names that are nothing":  seq(word, api.Node{}),
	}
}

// P9.1, M1, P2: nodes that are no name's and no principal's.
func TestNodesAreRefused(t *testing.T) {
	for what, n := range wrongNodes() {
		if got, e := names.Get(n); e != api.ErrName || len(got) != 0 {
			t.Errorf("%s: a name %s %v", what, short(got), e)
		}
		if got, e := names.GetPrinc(n); e != api.ErrName || !zeroPrinc(got) {
			t.Errorf("%s: a principal %.100q %v", what, got, e)
		}
		holdNode(t, n)
		holdNode(t, seq(n))
		holdNode(t, seq(cnNode("a"), n))
		holdNode(t, seq(leaf(api.TagGeneral, "R"), n))
	}
	for _, n := range []api.Node{seq(), seq(cnNode("a")), seq(cnNode("a"), orgNode("b"))} {
		if got, e := names.GetPrinc(n); e != api.ErrName || !zeroPrinc(got) {
			t.Errorf("%x: a principal %q %v", n, got, e)
		}
	}
	for _, p := range []api.Node{princNode("R", "a"), princNode("R", "a", "b")} {
		if got, e := names.Get(p); e != api.ErrName || len(got) != 0 {
			t.Errorf("%x: a name %s %v", p, short(got), e)
		}
	}
}

// P9.1, M1: a sequence, an object, a text or a word with any other tag is none.
func TestOtherTags(t *testing.T) {
	for tag := range 0x100 {
		tag := byte(tag)
		as := func(n api.Node) api.Node { n.Tag = tag; return n }
		oid, text, word := leaf(api.TagOID, "\x55\x04\x03"), leaf(api.TagUTF8, "a"), leaf(api.TagGeneral, "a")
		for _, c := range []struct {
			n   api.Node
			tag byte
		}{
			{as(seq()), api.TagSeq},
			{as(seq(cnNode("a"))), api.TagSeq},
			{seq(as(cnNode("a"))), api.TagSeq},
			{seq(cnNode("b"), as(cnNode("a"))), api.TagSeq},
			{seq(seq(as(oid), text)), api.TagOID},
			{seq(seq(oid, as(text))), api.TagUTF8},
			{as(princNode("R", "a")), api.TagSeq},
			{seq(as(word), seq(word)), api.TagGeneral},
			{seq(word, as(seq(word))), api.TagSeq},
			{seq(word, seq(as(word))), api.TagGeneral},
			{seq(word, seq(word, as(word))), api.TagGeneral},
		} {
			if holdNode(t, c.n) != (tag == c.tag) {
				t.Errorf("%x: not as its tag says", c.n)
			}
		}
	}
}

// P9.1, M1: empty lists are nil or not.
func TestEmptyLists(t *testing.T) {
	full := func(n api.Node) api.Node {
		if n.Body == nil {
			n.Body = []byte{}
		}
		if n.Kids == nil {
			n.Kids = []api.Node{}
		}
		return n
	}
	oid, text, word := full(leaf(api.TagOID, "\x55\x04\x03")), full(leaf(api.TagUTF8, "")), full(leaf(api.TagGeneral, "a"))
	for _, n := range []api.Node{full(seq()), seq(), full(seq(full(seq(oid, text)))), full(seq(word, full(seq(word)))), seq(seq(oid, api.Node{Tag: api.TagUTF8}))} {
		if !holdNode(t, n) {
			t.Errorf("%x is neither a name nor a principal", n)
		}
	}
}

// drawText is a text, right or nearly so.
func drawText(next func(int) int) string {
	letters := []string{"a", "b", "A", "B", " ", "  ", "é", "É", "\u00ad", "\u00a0", "Ω", "ω", "Ж", "ж", "€", "\U0001f600", "\t"}
	s := ""
	for range next(6) {
		s += letters[next(len(letters))]
	}
	switch next(12) {
	case 0:
		s += long[len(s)%64:]
	case 1:
		s += strings.Repeat("x", 62+next(4)-len(s)%60)
	}
	return s
}

// drawName is a name, right but for some texts that are too long.
func drawName(next func(int) int) api.Name {
	var n api.Name
	for range next(9) {
		oid := []int{next(3), next(40)}
		for range next(15) {
			oid = append(oid, next(1<<28)>>next(28))
		}
		n = append(n, api.Attr{Oid: oid, Text: drawText(next)})
	}
	return n
}

func drawPrinc(next func(int) int) api.Princ {
	word := func() string {
		b := make([]byte, 1+next(1+next(64)))
		for i := range b {
			b[i] = byte(0x20 + next(0x5f))
		}
		return string(b)
	}
	p := princ(word())
	for range 1 + next(8) {
		p.Names = append(p.Names, word())
	}
	return p
}

// spoil changes a node somewhere within it.
func spoil(next func(int) int, n api.Node) api.Node {
	n.Kids = slices.Clone(n.Kids)
	if len(n.Kids) > 0 && next(4) > 0 {
		at := next(len(n.Kids))
		n.Kids[at] = spoil(next, n.Kids[at])
		return n
	}
	tags := []byte{api.TagSeq, api.TagSet, api.TagOID, api.TagUTF8, api.TagGeneral, api.TagPrintable, 0xa0}
	switch next(6) {
	case 0:
		n.Tag = tags[next(len(tags))]
	case 1:
		n.Body = append(bytes.Clone(n.Body), byte(next(0x100)))
	case 2:
		n.Body = append(bytes.Clone(n.Body), strings.Repeat("x", 60+next(5))...)
	case 3:
		n.Kids = append(n.Kids, cnNode("a"))
	case 4:
		slices.Reverse(n.Kids)
	case 5:
		n.Kids = n.Kids[:len(n.Kids)-min(len(n.Kids), 1)]
	}
	return n
}

// P9.2, P9.1: drawn names and principals there and back, with something changed in their nodes; and no two have one node.
func TestThereAndBack(t *testing.T) {
	next := drawn()
	whose := map[string]string{}
	hold := func(n api.Node, what string) {
		b, e := nodes.Print(n)
		if other, is := whose[string(b)]; e != api.OK || is && other != what {
			t.Fatalf("%s and %s: %x %v", other, what, b, e)
		}
		whose[string(b)] = what
		for range 4 {
			holdNode(t, n)
			n = spoil(next, n)
		}
	}
	right := 0
	for range 20000 {
		n, p := drawName(next), drawPrinc(next)
		holdName(t, n)
		holdPrinc(t, p)
		if got, e := names.Put(n); e == api.OK {
			right++
			hold(got, fmt.Sprintf("%#v", n))
		}
		got, e := names.PutPrinc(p)
		if e != api.OK {
			t.Fatalf("%q: %v", p, e)
		}
		hold(got, fmt.Sprintf("%#v", p))
	}
	if right < 10000 || right == 20000 || len(whose) < 25000 {
		t.Error("too few right names, or no wrong ones", right, len(whose))
	}
}

// P9.2: what is put is put as it was through its bytes too, and every one of these that is changed is read as told.
func TestEachByteChanged(t *testing.T) {
	name, _ := names.Put(name(cn("Ann Lee"), org("é"), attr("", 1, 2, 840)))
	princ, _ := names.PutPrinc(princ("REALM", "krbtgt", "R"))
	for _, n := range []api.Node{name, princ} {
		b, e := nodes.Print(n)
		if e != api.OK {
			t.Fatal(e)
		}
		for at := range b {
			for x := range 0x100 {
				c := bytes.Clone(b)
				c[at] = byte(x)
				if n, _, e := nodes.Parse(c); e == api.OK {
					holdNode(t, n)
				}
			}
		}
	}
}

// sameAsTold is M2, part by part.
func sameAsTold(a, b api.Name) bool {
	if len(a) != len(b) {
		return false
	}
	for i := range a {
		if fmt.Sprint(a[i].Oid) != fmt.Sprint(b[i].Oid) || texts.Prep(a[i].Text) != texts.Prep(b[i].Text) {
			return false
		}
	}
	return true
}

// underAsTold is M2 too.
func underAsTold(a, base api.Name) bool {
	return len(a) >= len(base) && sameAsTold(append(name(), a...)[:len(base)], base)
}

// holdTwo: they are Same and Under as told, to both sides.
func holdTwo(t *testing.T, a, b api.Name) {
	t.Helper()
	if got, want := names.Same(a, b), sameAsTold(a, b); got != want {
		t.Fatalf("%s, %s: same %v", short(a), short(b), got)
	}
	if names.Same(a, b) != names.Same(b, a) {
		t.Fatalf("%s, %s: not the same to both sides", short(a), short(b))
	}
	if !names.Same(a, a) || !names.Same(b, b) || !names.Under(a, a) || !names.Under(b, b) {
		t.Fatalf("%s, %s: not the same as itself, or not under itself", short(a), short(b))
	}
	for range 2 {
		if got, want := names.Under(a, b), underAsTold(a, b); got != want {
			t.Fatalf("%s under %s: %v", short(a), short(b), got)
		}
		a, b = b, a
	}
	if names.Same(a, b) != (names.Under(a, b) && names.Under(b, a)) {
		t.Fatalf("%s, %s: the same, and not under one another, or the other way round", short(a), short(b))
	}
}

// P9.1, P9.3, M2: names that are the same, and names that are not.
func TestSame(t *testing.T) {
	ann := cn("Ann  Lee")
	for _, c := range []struct {
		a, b api.Name
		want bool
	}{
		{nil, nil, true},
		{nil, name(), true},
		{name(ann), name(cn("ann lee")), true},
		{name(ann), name(cn(" ANN LEE ")), true},
		{name(ann), name(cn("\u00a0Ann\u2003\tLee\n")), true},
		{name(ann), name(cn("A\u00adnn L\u200bee")), true},
		{name(ann), name(cn("annlee")), false},
		{name(ann), name(cn("ann le")), false},
		{name(ann), name(cn("ann leed")), false},
		{name(ann), name(org("Ann  Lee")), false},
		{name(ann), name(attr("Ann  Lee", 2, 5, 4)), false},
		{name(ann), name(attr("Ann  Lee", 2, 5, 4, 3, 0)), false},
		{name(ann), name(attr("Ann  Lee", 2, 5, 4, 30)), false},
		{name(ann), name(attr("Ann  Lee", 2, 5, 43)), false},
		{name(ann), nil, false},
		{name(cn("")), nil, false},
		{name(cn("")), name(cn("  ")), true},
		{name(cn("")), name(cn("\u00ad")), true},
		{name(cn("É")), name(cn("é")), true},
		{name(cn("É")), name(cn("e")), false},
		{name(cn("É")), name(cn("E\u0301")), false},
		{name(cn("ß")), name(cn("ss")), false},
		{name(cn("Ÿ")), name(cn("ÿ")), false}, // no great letter of layer 3
		{name(ann, org("x")), name(ann), false},
		{name(ann, org("x")), name(cn("ANN LEE"), org("X")), true},
		{name(ann, org("x")), name(org("x"), ann), false},
		{name(ann, org("x")), name(cn("ann lee"), org("y")), false},
		{name(ann, org("x")), name(cn("bob"), org("x")), false},
		{name(ann, org("x")), name(cn("x"), org("Ann Lee")), false},
		{name(ann, ann), name(ann), false},
		{name(cn("a"), cn("b")), name(cn("b"), cn("a")), false},
		{name(cn("a"), cn("")), name(cn(""), cn("a")), false},
		// Any names: right ones or not.
		{name(attr("a")), name(attr("A")), true},
		{name(attr("a")), name(api.Attr{Oid: []int{}, Text: "a"}), true},
		{name(attr("a")), name(attr("a", 0)), false},
		{name(attr("a", -1)), name(attr("A", -1)), true},
		{name(attr("a", -1)), name(attr("a", 1)), false},
		{name(attr("a", math.MaxInt)), name(attr("a", math.MinInt)), false},
		{name(attr("a", 0)), name(attr("a", math.MinInt)), false},
		{name(attr("a", 1)), name(attr("a", 1+1<<32)), false},
		{name(attr("a", slices.Repeat([]int{1}, 17)...)), name(attr("A", slices.Repeat([]int{1}, 17)...)), true},
		{name(cn("\xff")), name(cn("\xfe")), true}, // each stands for one rune that is none
		{name(cn("\xff")), name(cn("\ufffd")), true},
		{name(cn("\xff\xff")), name(cn("\xff")), false},
		{name(cn("\xff")), name(cn("ÿ")), false},
		{name(cn(strings.Repeat("x", 65))), name(cn(strings.Repeat("X", 65))), true},
		{name(cn(long + "x")), name(cn(long + "y")), false},
		{slices.Repeat(name(cn("a")), 9), slices.Repeat(name(cn("A")), 9), true},
		{slices.Repeat(name(cn("a")), 9), slices.Repeat(name(cn("A")), 8), false},
		{append(slices.Repeat(name(cn("a")), 8), cn("b")), append(slices.Repeat(name(cn("a")), 8), cn("c")), false},
	} {
		if got := names.Same(c.a, c.b); got != c.want {
			t.Errorf("%s, %s: %v", short(c.a), short(c.b), got)
		}
		holdTwo(t, c.a, c.b)
	}
}

// P9.1, M2: names that are under others, and names that are not.
func TestUnder(t *testing.T) {
	o, ou := org("Acme"), attr("Unit", 2, 5, 4, 11)
	for _, c := range []struct {
		a, base api.Name
		want    bool
	}{
		{nil, nil, true},
		{nil, name(), true},
		{name(o), nil, true},
		{name(attr("")), nil, true},
		{nil, name(o), false},
		{nil, name(attr("")), false},
		{name(o), name(o), true},
		{name(o), name(org(" ACME")), true},
		{name(o, ou), name(org("acme ")), true},
		{name(o, ou, cn("x")), name(o), true},
		{name(o, ou, cn("x")), name(o, ou), true},
		{name(o, ou, cn("x")), name(org("acme"), attr("UNIT", 2, 5, 4, 11)), true},
		{name(o, ou, cn("x")), name(o, ou, cn("X")), true},
		{name(o, ou, cn("x")), name(o, ou, cn("x"), cn("y")), false},
		{name(o, ou, cn("x")), name(ou), false},
		{name(o, ou, cn("x")), name(ou, cn("x")), false},
		{name(o, ou, cn("x")), name(cn("x")), false},
		{name(o, ou, cn("x")), name(o, cn("x")), false},
		{name(o, ou, cn("x")), name(ou, o), false},
		{name(o), name(o, ou), false},
		{name(o), name(org("Acm")), false},
		{name(org("Acm")), name(o), false},
		{name(o), name(cn("Acme")), false},
		{name(cn("a"), cn("a")), name(cn("a"), cn("a"), cn("a")), false},
		{name(attr("a", -1), cn("b")), name(attr("A", -1)), true},
		{name(attr("a"), cn("b")), name(attr("a")), true},
		{name(cn("\xff"), cn("b")), name(cn("\xfe")), true},
		{slices.Repeat(name(cn("a")), 100), slices.Repeat(name(cn("A")), 99), true},
		{slices.Repeat(name(cn("a")), 99), slices.Repeat(name(cn("A")), 100), false},
	} {
		if got := names.Under(c.a, c.base); got != c.want {
			t.Errorf("%s under %s: %v", short(c.a), short(c.base), got)
		}
		holdTwo(t, c.a, c.base)
	}
}

// smallNames are all names of at most three of a few parts.
func smallNames() []api.Name {
	parts := []api.Attr{cn("a"), cn(" A"), cn("b"), org("a"), attr("a")}
	all := []api.Name{nil}
	for from := 0; len(all[from]) < 3; from++ {
		for _, a := range parts {
			all = append(all, append(slices.Clone(all[from]), a))
		}
	}
	return all
}

// P9.3, P9.1: all small names, by twos and threes: Same to both sides, and what is Under what is Under something is Under that.
func TestSmallNames(t *testing.T) {
	all := smallNames()
	if len(all) != 1+5+25+125 {
		t.Fatal(len(all))
	}
	for _, a := range all {
		for _, b := range all {
			holdTwo(t, a, b)
			under, same := names.Under(a, b), names.Same(a, b)
			if !under {
				continue
			}
			for _, c := range all {
				if names.Under(b, c) && !names.Under(a, c) {
					t.Fatalf("%s is under %s, that is under %s", short(a), short(b), short(c))
				}
				if same && (names.Same(b, c) != names.Same(a, c) || names.Under(c, b) != names.Under(c, a) || names.Under(b, c) != names.Under(a, c)) {
					t.Fatalf("%s is %s, but not to %s", short(a), short(b), short(c))
				}
			}
		}
	}
}

// reworded is a text that is prepared as another one is.
func reworded(next func(int) int, s string) string {
	out := ""
	for _, r := range s {
		switch x := string(r); next(5) {
		case 0:
			out += strings.ToUpper(x)
		case 1:
			out += strings.ToLower(x)
		case 2:
			out += x + []string{"\u00ad", "\u200b", "\ufeff"}[next(3)]
		default:
			out += x
		}
	}
	blanks := []string{"", " ", "\t", "\u00a0 ", "\u3000", "\u200d"}
	return blanks[next(len(blanks))] + out + blanks[next(len(blanks))]
}

// P9.3, P9.1: drawn names, those with other words for their texts, and those with something changed.
func TestDrawnNames(t *testing.T) {
	next := drawn()
	for range 20000 {
		a := drawName(next)
		b := slices.Clone(a)
		for i := range b {
			b[i] = api.Attr{Oid: slices.Clone(b[i].Oid), Text: reworded(next, b[i].Text)}
		}
		if !names.Same(a, b) {
			t.Fatalf("%s is not %s", short(a), short(b))
		}
		holdTwo(t, a, b)
		holdTwo(t, a, b[:next(len(b)+1)])
		if len(b) == 0 {
			continue
		}
		c, at := slices.Clone(b), next(len(b))
		switch next(4) {
		case 0:
			c[at].Text += "z"
		case 1:
			c[at].Oid = append(slices.Clone(c[at].Oid), 0)
		case 2:
			c[at].Oid = slices.Clone(c[at].Oid)
			c[at].Oid[next(len(c[at].Oid))] ^= 1 << next(40)
		case 3:
			c = slices.Delete(c, at, at+1)
		}
		if names.Same(a, c) {
			t.Fatalf("%s is %s", short(a), short(c))
		}
		holdTwo(t, a, c)
		holdTwo(t, a, c[:next(len(c)+1)])
	}
}

// P1: nodes that have themselves among their kids, and very wide, deep and long ones; names of very many parts and texts.
func TestCallsEnd(t *testing.T) {
	round := make([]api.Node, 2)
	round[0] = leaf(api.TagGeneral, "R")
	round[1] = api.Node{Tag: api.TagSeq, Kids: round}
	twin := make([]api.Node, 2)
	for i := range twin {
		twin[i] = api.Node{Tag: api.TagSeq, Kids: twin}
	}
	deep := seq()
	for range 1 << 16 {
		deep = seq(deep)
	}
	double := seq()
	for range 60 {
		double = seq(double, double)
	}
	long := leaf(api.TagUTF8, strings.Repeat("x", 1<<20))
	far := leaf(api.TagOID, "\x55"+strings.Repeat("\x81", 1<<20))
	wide := slices.Repeat([]api.Node{seq(far, long)}, 1<<16)
	for i, n := range []api.Node{round[1], twin[0], deep, double, seq(wide...), seq(leaf(api.TagGeneral, "R"), seq(wide...)), seq(seq(far, long)), seq(leaf(api.TagGeneral, "R"), seq(long)), seq(long, seq(long)), seq(seq(wide...))} {
		if got, e := names.Get(n); e != api.ErrName || len(got) != 0 {
			t.Error(i, e)
		}
		if got, e := names.GetPrinc(n); e != api.ErrName || !zeroPrinc(got) {
			t.Error(i, e)
		}
	}
	many := slices.Repeat(name(cn("a")), 1<<18)
	if got, e := names.Put(many); e != api.ErrName || !zero(got) {
		t.Error(e)
	}
	if got, e := names.PutPrinc(princ("R", slices.Repeat([]string{"a"}, 1<<18)...)); e != api.ErrName || !zero(got) {
		t.Error(e)
	}
	if !names.Same(many, slices.Clone(many)) || !names.Under(many, many[1:]) || names.Under(many[1:], many) {
		t.Error("many parts")
	}
	text := strings.Repeat("Ab ", 1<<18)
	if !names.Same(name(cn(text)), name(cn(strings.ToLower(text)))) || names.Same(name(cn(text)), name(cn(text[1:]))) {
		t.Error("long texts")
	}
	if _, e := names.Put(name(cn(text))); e != api.ErrName {
		t.Error(e)
	}
	if _, e := names.PutPrinc(princ(text, text)); e != api.ErrName {
		t.Error(e)
	}
}

// roomy is a list with spare room behind it, filled with what stands there.
func roomy[T any](list []T, behind T) []T {
	out := append(make([]T, 0, len(list)+4), list...)
	for i := len(list); i < cap(out); i++ {
		out[:cap(out)][i] = behind
	}
	return out
}

// bodies and families are all lists of a node, with their spare room.
func bodies(n api.Node) [][]byte {
	all := [][]byte{n.Body[:cap(n.Body)]}
	for _, kid := range n.Kids {
		all = append(all, bodies(kid)...)
	}
	return all
}

func families(n api.Node) [][]api.Node {
	all := [][]api.Node{n.Kids[:cap(n.Kids)]}
	for _, kid := range n.Kids {
		all = append(all, families(kid)...)
	}
	return all
}

// scribble writes over all that a node has, spare room too; each list with what no other one has, so that it tells whether two share any.
func scribble(t *testing.T, n api.Node) {
	t.Helper()
	inner, outer := bodies(n), families(n)
	for i, b := range inner {
		for j := range b {
			b[j] = byte(i)
		}
	}
	for i, kids := range outer {
		for j := range kids {
			kids[j] = api.Node{Tag: byte(i)}
		}
	}
	for i, b := range inner {
		if len(bytes.Trim(b, string([]byte{byte(i)}))) != 0 {
			t.Fatal("two bodies lie in one another")
		}
	}
	for i, kids := range outer {
		for _, kid := range kids {
			if kid.Tag != byte(i) {
				t.Fatal("two lists of kids lie in one another")
			}
		}
	}
}

// P3: a name that is handed in is not changed, nor its spare room, nor kept; its node is new memory.
func TestPutTakesNothing(t *testing.T) {
	for _, text := range []string{"Ann", "", long, "\xff", long + "x"} {
		oid := roomy([]int{2, 5, 4, 3}, 77)
		n := roomy(name(api.Attr{Oid: oid, Text: text}, api.Attr{Oid: oid, Text: text}, org("x")), cn("spare"))
		got, e := names.Put(n)
		again, f := names.Put(n)
		want, wrong := nameAsTold(n)
		if e != wrong || f != wrong || !one(got, want) || !one(again, want) {
			t.Fatalf("%s: %x %v, and then %x %v", short(n), got, e, again, f)
		}
		if !slices.Equal(oid[:cap(oid)], []int{2, 5, 4, 3, 77, 77, 77, 77}) || !oneName(n[3:cap(n)], slices.Repeat(name(cn("spare")), 4)) {
			t.Fatal("what was handed in has changed", oid[:cap(oid)], n[:cap(n)])
		}
		scribble(t, got)
		if !slices.Equal(oid, []int{2, 5, 4, 3}) || !one(again, want) {
			t.Fatal("the node lies in the name, or in another one")
		}
		oid[3] = 9
		n[2] = cn("y")
		if !one(again, want) {
			t.Fatal("the name lies in its node")
		}
	}
	for _, text := range []string{"ann", "", "\x7f"} {
		parts := roomy([]string{text, "b"}, "spare")
		p := api.Princ{Realm: "R", Names: parts}
		got, e := names.PutPrinc(p)
		again, f := names.PutPrinc(p)
		want, wrong := princAsTold(p)
		if e != wrong || f != wrong || !one(got, want) || !one(again, want) {
			t.Fatalf("%q: %x %v, and then %x %v", p, got, e, again, f)
		}
		scribble(t, got)
		if !slices.Equal(parts[:cap(parts)], []string{text, "b", "spare", "spare", "spare", "spare"}) || !one(again, want) {
			t.Fatal("the node lies in the principal, or in another one")
		}
		parts[1] = "c"
		if !one(again, want) {
			t.Fatal("the principal lies in its node")
		}
	}
}

// roomyNode is a node whose lists all have spare room.
func roomyNode(n api.Node) api.Node {
	out := api.Node{Tag: n.Tag, Body: roomy(n.Body, 0xee)}
	for _, kid := range n.Kids {
		out.Kids = append(out.Kids, roomyNode(kid))
	}
	out.Kids = roomy(out.Kids, leaf(0x99, "spare"))
	return out
}

// P3: so it is of a node that is handed in, and of the name or the principal that comes out.
func TestGetTakesNothing(t *testing.T) {
	for _, text := range []string{"Ann", "", long, "\xff", long + "x"} {
		n, kept := roomyNode(seq(cnNode(text), cnNode(text), orgNode("x"))), roomyNode(seq(cnNode(text), cnNode(text), orgNode("x")))
		got, e := names.Get(n)
		again, f := names.Get(n)
		want, wrong := nameOfNode(n)
		if e != wrong || f != wrong || !oneName(got, want) || !oneName(again, want) {
			t.Fatalf("%x: %s %v, and then %s %v", n, short(got), e, short(again), f)
		}
		if !slices.EqualFunc(bodies(n), bodies(kept), bytes.Equal) || !slices.EqualFunc(families(n), families(kept), func(a, b []api.Node) bool { return slices.EqualFunc(a, b, one) }) {
			t.Fatalf("%x has changed", n)
		}
		for i := range got {
			arcs := got[i].Oid[:cap(got[i].Oid)]
			for j := range arcs {
				arcs[j] = 1000 + i
			}
		}
		for i := range got {
			if slices.ContainsFunc(got[i].Oid, func(arc int) bool { return arc != 1000+i }) {
				t.Fatal("two objects lie in one another")
			}
		}
		clear(got[:cap(got)])
		scribble(t, n)
		if !oneName(again, want) {
			t.Fatal("the name lies in its node, or in another one")
		}
	}
	for _, word := range []string{"ann", "", "\x7f"} {
		n, kept := roomyNode(princNode("R", word, "b")), roomyNode(princNode("R", word, "b"))
		got, e := names.GetPrinc(n)
		again, f := names.GetPrinc(n)
		want, wrong := princOfNode(n)
		if e != wrong || f != wrong || !onePrinc(got, want) || !onePrinc(again, want) {
			t.Fatalf("%x: %q %v, and then %q %v", n, got, e, again, f)
		}
		if !slices.EqualFunc(bodies(n), bodies(kept), bytes.Equal) || !slices.EqualFunc(families(n), families(kept), func(a, b []api.Node) bool { return slices.EqualFunc(a, b, one) }) {
			t.Fatalf("%x has changed", n)
		}
		clear(got.Names[:cap(got.Names)])
		scribble(t, n)
		if !onePrinc(again, want) {
			t.Fatal("the principal lies in its node, or in another one")
		}
	}
}

// P3: names that are held against one another are not changed, nor looked at behind their lengths.
func TestSameTakesNothing(t *testing.T) {
	oid := roomy([]int{2, 5, 4, 3}, 77)
	a := roomy(name(api.Attr{Oid: oid, Text: " Ann  LEE"}), cn("spare"))
	b := name(cn("ann lee"), cn("spare"))
	if !names.Same(a, b[:1]) || names.Same(a, b) || names.Under(a, b) || !names.Under(b, a) || !names.Under(a, b[:1]) {
		t.Error("what stands behind is looked at")
	}
	want := append(name(cn(" Ann  LEE")), slices.Repeat(name(cn("spare")), 4)...)
	if !oneName(a[:cap(a)], want) || !slices.Equal(oid[:cap(oid)], []int{2, 5, 4, 3, 77, 77, 77, 77}) || !oneName(b, name(cn("ann lee"), cn("spare"))) {
		t.Error("names have changed", a[:cap(a)], oid[:cap(oid)], b)
	}
}

func ExampleSame() {
	fmt.Println(names.Same(name(cn("Ann  Lee")), name(cn("ann lee"))))
	fmt.Println(names.Under(name(org("a"), cn("b")), name(org("A"))))
	// Output:
	// true
	// true
}

func ExamplePutPrinc() {
	_, err := names.PutPrinc(api.Princ{Realm: "R"})
	fmt.Println(err)
	// Output: warder: error 91
}
