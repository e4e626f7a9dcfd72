package exts_test

import (
	"bytes"
	"fmt"
	"math"
	"slices"
	"strings"
	"testing"

	"warder/api"
	"warder/exts"
	"warder/ints"
	"warder/names"
	"warder/nodes"
)

// drawn tells numbers that look drawn, and are the same each time.
func drawn() func(below int) int {
	state := uint64(1)
	return func(below int) int {
		state = state*6364136223846793005 + 1442695040888963407
		return int(state>>33) % below
	}
}

func leaf(tag byte, body string) api.Node { return api.Node{Tag: tag, Body: []byte(body)} }

func over(tag byte, kids ...api.Node) api.Node { return api.Node{Tag: tag, Kids: kids} }

func seq(kids ...api.Node) api.Node { return over(api.TagSeq, kids...) }

// der are a value's bytes, written without the program's help.
func der(tag byte, parts ...string) string {
	body := strings.Join(parts, "")
	head := []byte{tag}
	switch n := len(body); {
	case n < 0x80:
		head = append(head, byte(n))
	case n < 0x100:
		head = append(head, 0x81, byte(n))
	default:
		head = append(head, 0x82, byte(n>>8), byte(n))
	}
	return string(head) + body
}

// The bodies of the known objects, and of another one (1.9).
const (
	oidCA     = "\x55\x1d\x13"
	oidUsage  = "\x55\x1d\x0f"
	oidEku    = "\x55\x1d\x25"
	oidPrincs = "\x55\x1d\x11"
	oidSpace  = "\x55\x1d\x1e"
	oidOdd    = "\x31"
)

// ext is an extension's node, of any bytes.
func ext(oid string, crit bool, said string) api.Node {
	if crit {
		return seq(leaf(api.TagOID, oid), leaf(api.TagBool, "\xff"), leaf(api.TagOctets, said))
	}
	return seq(leaf(api.TagOID, oid), leaf(api.TagOctets, said))
}

// one: are two nodes one, be their empty lists nil or not?
func one(a, b api.Node) bool {
	return a.Tag == b.Tag && bytes.Equal(a.Body, b.Body) && slices.EqualFunc(a.Kids, b.Kids, one)
}

func zero(n api.Node) bool { return n.Tag == 0 && len(n.Body) == 0 && len(n.Kids) == 0 }

func onePrinc(a, b api.Princ) bool { return a.Realm == b.Realm && slices.Equal(a.Names, b.Names) }

func oneName(a, b api.Name) bool {
	return slices.EqualFunc(a, b, func(x, y api.Attr) bool { return slices.Equal(x.Oid, y.Oid) && x.Text == y.Text })
}

func oneOdd(a, b api.Odd) bool {
	return slices.Equal(a.Oid, b.Oid) && a.Crit == b.Crit && bytes.Equal(a.Body, b.Body)
}

// oneExts: are two extensions one, be their empty lists nil or not?
func oneExts(a, b api.Exts) bool {
	return a.HasCA == b.HasCA && a.CA == b.CA && a.Path == b.Path && a.Usage == b.Usage &&
		slices.EqualFunc(a.Eku, b.Eku, slices.Equal[[]int]) && slices.EqualFunc(a.Princs, b.Princs, onePrinc) &&
		slices.EqualFunc(a.Permit, b.Permit, oneName) && slices.EqualFunc(a.Exclude, b.Exclude, oneName) &&
		slices.EqualFunc(a.Odd, b.Odd, oneOdd)
}

// short is how something is told where it is wrong.
func short(x any) string {
	s := fmt.Sprintf("%+v", x)
	return s[:min(len(s), 300)]
}

func odd(crit bool, body string, arcs ...int) api.Odd {
	return api.Odd{Oid: arcs, Crit: crit, Body: []byte(body)}
}

func princ(realm string, parts ...string) api.Princ { return api.Princ{Realm: realm, Names: parts} }

// cn is a name of one part.
func cn(text string) api.Name { return api.Name{{Oid: []int{2, 5, 4, 3}, Text: text}} }

// cnBytes are its node's, princBytes a principal's, of any texts.
func cnBytes(text string) string {
	return der(0x30, der(0x30, der(0x06, "\x55\x04\x03"), der(0x0c, text)))
}

func princBytes(realm string, parts ...string) string {
	all := ""
	for _, s := range parts {
		all += der(0x1b, s)
	}
	return der(0x30, der(0x1b, realm), der(0x30, all))
}

var (
	long    = strings.Repeat("x", 64)
	longOID = append([]int{2}, slices.Repeat([]int{1<<28 - 81}, 15)...) // of 60 bytes, as many as there may be
	longDN  = slices.Repeat(api.Name{{Oid: longOID, Text: long}}, 8)
	longWho = princ(long, slices.Repeat([]string{long}, 8)...)
)

// numbered is an object of 60 bytes that no other number has.
func numbered(n int) []int { return append(slices.Clone(longOID[:15]), 1<<27+n) }

// isKnown: is this one of the five?
func isKnown(arcs []int) bool {
	switch fmt.Sprint(arcs) {
	case "[2 5 29 19]", "[2 5 29 15]", "[2 5 29 37]", "[2 5 29 17]", "[2 5 29 30]":
		return true
	}
	return false
}

// wrongAsTold: are extensions not right, by the section Types?
func wrongAsTold(x api.Exts) bool {
	switch {
	case x.CA && !x.HasCA, x.CA && (x.Path < -1 || x.Path > 100), !x.CA && x.Path != 0:
		return true
	case len(x.Eku) > 16, len(x.Princs) > 16, len(x.Permit) > 16, len(x.Exclude) > 16, len(x.Odd) > 16:
		return true
	}
	wrong := false
	object := func(arcs []int) { _, e := ints.PutOID(arcs); wrong = wrong || e != api.OK }
	name := func(n api.Name) { _, e := names.Put(n); wrong = wrong || e != api.OK }
	for _, arcs := range x.Eku {
		object(arcs)
	}
	for _, p := range x.Princs {
		_, e := names.PutPrinc(p)
		wrong = wrong || e != api.OK
	}
	for _, n := range x.Permit {
		name(n)
	}
	for _, n := range x.Exclude {
		name(n)
	}
	seen := map[string]int{}
	for _, o := range x.Odd {
		object(o.Oid)
		seen[fmt.Sprint(o.Oid)]++
		wrong = wrong || isKnown(o.Oid) || seen[fmt.Sprint(o.Oid)] > 1 || len(o.Body) > 1024
	}
	return wrong
}

// printed are the bytes of the nodes of some parts, one behind the other.
func printed[Part any](parts []Part, put func(Part) (api.Node, api.Errno)) string {
	all := ""
	for _, part := range parts {
		n, _ := put(part)
		b, _ := nodes.Print(n)
		all += string(b)
	}
	return all
}

// asTold is right extensions' node, by the section Types.
func asTold(x api.Exts) (api.Node, api.Errno) {
	if wrongAsTold(x) {
		return api.Node{}, api.ErrExts
	}
	out := seq()
	put := func(oid string, crit bool, said string) { out.Kids = append(out.Kids, ext(oid, crit, said)) }
	if x.HasCA && !x.CA {
		put(oidCA, true, "\x30\x00")
	}
	if x.CA && x.Path == -1 {
		put(oidCA, true, "\x30\x03\x01\x01\xff")
	}
	if x.CA && x.Path != -1 {
		put(oidCA, true, "\x30\x06\x01\x01\xff\x02\x01"+string([]byte{byte(x.Path)}))
	}
	if x.Usage != 0 {
		put(oidUsage, true, der(0x03, string(ints.PutBits(x.Usage))))
	}
	if len(x.Eku) > 0 {
		all := ""
		for _, arcs := range x.Eku {
			b, _ := ints.PutOID(arcs)
			all += der(0x06, string(b))
		}
		put(oidEku, false, der(0x30, all))
	}
	if len(x.Princs) > 0 {
		put(oidPrincs, false, der(0x30, printed(x.Princs, names.PutPrinc)))
	}
	space := ""
	if len(x.Permit) > 0 {
		space += der(0xa0, printed(x.Permit, names.Put))
	}
	if len(x.Exclude) > 0 {
		space += der(0xa1, printed(x.Exclude, names.Put))
	}
	if space != "" {
		put(oidSpace, true, der(0x30, space))
	}
	for _, o := range x.Odd {
		b, _ := ints.PutOID(o.Oid)
		put(string(b), o.Crit, string(o.Body))
	}
	return out, api.OK
}

// partsTold reads each kid of a node that has the tag, no body, and 1 to 16 of them.
func partsTold(n api.Node, tag byte, read func(api.Node) bool) bool {
	if n.Tag != tag || len(n.Body) != 0 || len(n.Kids) < 1 || len(n.Kids) > 16 {
		return false
	}
	for _, kid := range n.Kids {
		if !read(kid) {
			return false
		}
	}
	return true
}

// readSaid reads what an extension of a known object says into x, part by part.
func readSaid(x *api.Exts, oid string, n api.Node) bool {
	switch oid {
	case oidCA:
		x.HasCA = true
		if n.Tag != 0x30 || len(n.Kids) > 2 {
			return false
		}
		if len(n.Kids) == 0 {
			return true
		}
		x.CA, x.Path = true, -1
		if n.Kids[0].Tag != 0x01 || string(n.Kids[0].Body) != "\xff" {
			return false
		}
		if len(n.Kids) == 1 {
			return true
		}
		path := n.Kids[1]
		if path.Tag != 0x02 || len(path.Body) != 1 || path.Body[0] > 100 {
			return false
		}
		x.Path = int(path.Body[0])
	case oidUsage:
		mask, e := ints.Bits(n.Body)
		x.Usage = mask
		return n.Tag == 0x03 && e == api.OK && mask != 0
	case oidEku:
		return partsTold(n, 0x30, func(kid api.Node) bool {
			arcs, e := ints.OID(kid.Body)
			x.Eku = append(x.Eku, arcs)
			return kid.Tag == 0x06 && e == api.OK
		})
	case oidPrincs:
		return partsTold(n, 0x30, func(kid api.Node) bool {
			p, e := names.GetPrinc(kid)
			x.Princs = append(x.Princs, p)
			return e == api.OK
		})
	case oidSpace:
		kids := n.Kids
		if n.Tag != 0x30 || len(kids) < 1 || len(kids) > 2 || len(kids) == 2 && kids[0].Tag != 0xa0 {
			return false
		}
		if kids[0].Tag == 0xa0 {
			read := func(kid api.Node) bool {
				n, e := names.Get(kid)
				x.Permit = append(x.Permit, n)
				return e == api.OK
			}
			if !partsTold(kids[0], 0xa0, read) {
				return false
			}
			kids = kids[1:]
		}
		return len(kids) == 0 || partsTold(kids[0], 0xa1, func(kid api.Node) bool {
			n, e := names.Get(kid)
			x.Exclude = append(x.Exclude, n)
			return e == api.OK
		})
	}
	return true
}

// readExt reads one extension of a node into x, and tells its rank: that of a known one is its place in the table.
func readExt(x *api.Exts, n api.Node) (int, bool) {
	if n.Tag != 0x30 || len(n.Body) != 0 || len(n.Kids) < 2 || len(n.Kids) > 3 {
		return 0, false
	}
	oid, said, crit := n.Kids[0], n.Kids[len(n.Kids)-1], len(n.Kids) == 3
	arcs, e := ints.OID(oid.Body)
	if oid.Tag != 0x06 || len(oid.Kids) != 0 || e != api.OK || said.Tag != 0x04 || len(said.Kids) != 0 {
		return 0, false
	}
	if crit && (n.Kids[1].Tag != 0x01 || string(n.Kids[1].Body) != "\xff" || len(n.Kids[1].Kids) != 0) {
		return 0, false
	}
	rank := 1 + slices.Index([]string{oidCA, oidUsage, oidEku, oidPrincs, oidSpace}, string(oid.Body))
	if rank == 0 {
		twice := slices.ContainsFunc(x.Odd, func(o api.Odd) bool { return slices.Equal(o.Oid, arcs) })
		x.Odd = append(x.Odd, api.Odd{Oid: arcs, Crit: crit, Body: said.Body})
		return 6, !twice && len(said.Body) <= 1024
	}
	parsed, _, e := nodes.Parse(said.Body)
	return rank, e == api.OK && crit == (rank != 3 && rank != 4) && readSaid(x, string(oid.Body), parsed)
}

// ofNode are the right extensions whose node one is, part by part.
func ofNode(n api.Node) (api.Exts, api.Errno) {
	var x api.Exts
	if n.Tag != 0x30 || len(n.Body) != 0 {
		return api.Exts{}, api.ErrExts
	}
	last := 0
	for _, kid := range n.Kids {
		rank, right := readExt(&x, kid)
		if !right || rank < last || rank == last && rank != 6 || len(x.Odd) > 16 {
			return api.Exts{}, api.ErrExts
		}
		last = rank
	}
	return x, api.OK
}

// holdExts: their node is as told, is a right node, and is read as they were. It tells whether they are right.
func holdExts(t *testing.T, x api.Exts) bool {
	t.Helper()
	got, e := exts.Put(x)
	want, wrong := asTold(x)
	if e != wrong || !one(got, want) {
		t.Fatalf("%s: put %.200x %v, not %.200x %v", short(x), got, e, want, wrong)
	}
	if e != api.OK {
		return false
	}
	if e := nodes.Check(got); e != api.OK {
		t.Fatalf("%s: its node %.200x is checked %v", short(x), got, e)
	}
	if again, e := exts.Get(got); e != api.OK || !oneExts(again, x) {
		t.Fatalf("%s: put %.200x, and got %s %v", short(x), got, short(again), e)
	}
	return true
}

// holdNode: it is read as told, and put as it stood. It tells whether it is extensions'.
func holdNode(t *testing.T, n api.Node) bool {
	t.Helper()
	got, e := exts.Get(n)
	want, wrong := ofNode(n)
	if e != wrong || !oneExts(got, want) {
		t.Fatalf("%.300x: got %s %v, not %s %v", n, short(got), e, short(want), wrong)
	}
	if e != api.OK {
		return false
	}
	if again, f := exts.Put(got); f != api.OK || !one(again, n) {
		t.Fatalf("%.300x: got %s, and put %.300x %v", n, short(got), again, f)
	}
	return true
}

// all are extensions that have each, and allBytes are their node's.
func all() api.Exts {
	return api.Exts{
		HasCA: true, CA: true, Path: 2, Usage: api.UseSign | api.UseCert,
		Eku:     [][]int{{1, 2, 3}, {1, 3, 6}},
		Princs:  []api.Princ{princ("R", "a"), princ("R", "krbtgt", "R")},
		Permit:  []api.Name{nil, cn("Ann")},
		Exclude: []api.Name{cn("Bob")},
		Odd:     []api.Odd{odd(true, "x", 1, 9), odd(false, "", 2, 5, 29, 14)},
	}
}

var allBytes = der(0x30,
	der(0x30, "\x06\x03\x55\x1d\x13", "\x01\x01\xff", der(0x04, "\x30\x06\x01\x01\xff\x02\x01\x02")),
	der(0x30, "\x06\x03\x55\x1d\x0f", "\x01\x01\xff", der(0x04, "\x03\x02\x02\x84")),
	der(0x30, "\x06\x03\x55\x1d\x25", der(0x04, der(0x30, "\x06\x02\x2a\x03", "\x06\x02\x2b\x06"))),
	der(0x30, "\x06\x03\x55\x1d\x11", der(0x04, der(0x30, princBytes("R", "a"), princBytes("R", "krbtgt", "R")))),
	der(0x30, "\x06\x03\x55\x1d\x1e", "\x01\x01\xff", der(0x04, der(0x30, der(0xa0, "\x30\x00", cnBytes("Ann")), der(0xa1, cnBytes("Bob"))))),
	der(0x30, "\x06\x01\x31", "\x01\x01\xff", "\x04\x01x"),
	der(0x30, "\x06\x03\x55\x1d\x0e", "\x04\x00"),
)

// P10.1, P10.2, E1: right extensions, and their nodes' bytes.
func TestExtsAndTheirNodes(t *testing.T) {
	for _, c := range []struct {
		x api.Exts
		b string
	}{
		{api.Exts{}, "\x30\x00"},
		{api.Exts{Eku: [][]int{}, Princs: []api.Princ{}, Permit: []api.Name{}, Exclude: []api.Name{}, Odd: []api.Odd{}}, "\x30\x00"},
		{api.Exts{HasCA: true}, "\x30\x0e\x30\x0c\x06\x03\x55\x1d\x13\x01\x01\xff\x04\x02\x30\x00"},
		{api.Exts{HasCA: true, CA: true, Path: -1}, "\x30\x11\x30\x0f\x06\x03\x55\x1d\x13\x01\x01\xff\x04\x05\x30\x03\x01\x01\xff"},
		{api.Exts{HasCA: true, CA: true}, "\x30\x14\x30\x12\x06\x03\x55\x1d\x13\x01\x01\xff\x04\x08\x30\x06\x01\x01\xff\x02\x01\x00"},
		{api.Exts{HasCA: true, CA: true, Path: 100}, "\x30\x14\x30\x12\x06\x03\x55\x1d\x13\x01\x01\xff\x04\x08\x30\x06\x01\x01\xff\x02\x01\x64"},
		{api.Exts{Usage: api.UseSign}, "\x30\x10\x30\x0e\x06\x03\x55\x1d\x0f\x01\x01\xff\x04\x04\x03\x02\x07\x80"},
		{api.Exts{Usage: api.UseCert}, "\x30\x10\x30\x0e\x06\x03\x55\x1d\x0f\x01\x01\xff\x04\x04\x03\x02\x02\x04"},
		{api.Exts{Usage: 0xffff}, "\x30\x11\x30\x0f\x06\x03\x55\x1d\x0f\x01\x01\xff\x04\x05\x03\x03\x00\xff\xff"},
		{api.Exts{Usage: 1 << 15}, "\x30\x11\x30\x0f\x06\x03\x55\x1d\x0f\x01\x01\xff\x04\x05\x03\x03\x00\x00\x01"},
		{api.Exts{Eku: [][]int{{1, 2, 3}}}, "\x30\x0f\x30\x0d\x06\x03\x55\x1d\x25\x04\x06\x30\x04\x06\x02\x2a\x03"},
		{api.Exts{Eku: [][]int{{1, 2, 3}, {1, 2, 3}}}, "\x30\x13\x30\x11\x06\x03\x55\x1d\x25\x04\x0a\x30\x08\x06\x02\x2a\x03\x06\x02\x2a\x03"}, // twice, which Eku may
		{api.Exts{Eku: [][]int{{2, 5, 29, 19}}}, "\x30\x10\x30\x0e\x06\x03\x55\x1d\x25\x04\x07\x30\x05\x06\x03\x55\x1d\x13"},
		{api.Exts{Princs: []api.Princ{princ("R", "a")}}, "\x30\x15\x30\x13\x06\x03\x55\x1d\x11\x04\x0c\x30\x0a\x30\x08\x1b\x01R\x30\x03\x1b\x01a"},
		{api.Exts{Permit: []api.Name{nil}}, "\x30\x12\x30\x10\x06\x03\x55\x1d\x1e\x01\x01\xff\x04\x06\x30\x04\xa0\x02\x30\x00"},
		{api.Exts{Exclude: []api.Name{nil}}, "\x30\x12\x30\x10\x06\x03\x55\x1d\x1e\x01\x01\xff\x04\x06\x30\x04\xa1\x02\x30\x00"},
		{api.Exts{Permit: []api.Name{nil, nil}, Exclude: []api.Name{nil}}, "\x30\x18\x30\x16\x06\x03\x55\x1d\x1e\x01\x01\xff\x04\x0c\x30\x0a\xa0\x04\x30\x00\x30\x00\xa1\x02\x30\x00"},
		{api.Exts{Odd: []api.Odd{odd(false, "", 1, 9)}}, "\x30\x07\x30\x05\x06\x01\x31\x04\x00"},
		{api.Exts{Odd: []api.Odd{odd(true, "", 1, 9)}}, "\x30\x0a\x30\x08\x06\x01\x31\x01\x01\xff\x04\x00"},
		{api.Exts{Odd: []api.Odd{odd(true, "\x30\x00", 1, 9)}}, "\x30\x0c\x30\x0a\x06\x01\x31\x01\x01\xff\x04\x02\x30\x00"},
		{api.Exts{Odd: []api.Odd{odd(false, "\x30\x80\xff", 1, 9)}}, "\x30\x0a\x30\x08\x06\x01\x31\x04\x03\x30\x80\xff"}, // bytes of no node
		{api.Exts{Odd: []api.Odd{odd(false, "b", 2, 1), odd(false, "a", 1, 1)}}, "\x30\x10\x30\x06\x06\x01\x51\x04\x01b\x30\x06\x06\x01\x29\x04\x01a"},
		{all(), allBytes},
	} {
		got, e := exts.Put(c.x)
		if e != api.OK || got.Tag != api.TagSeq {
			t.Errorf("%s: put %x %v", short(c.x), got, e)
		}
		if b, e := nodes.Print(got); e != api.OK || string(b) != c.b {
			t.Errorf("%s: printed %x %v, not %x", short(c.x), b, e, c.b)
		}
		parsed, _, e := nodes.Parse([]byte(c.b))
		if got, f := exts.Get(parsed); e != api.OK || f != api.OK || !oneExts(got, c.x) {
			t.Errorf("%x: got %s %v %v, not %s", c.b, short(got), e, f, short(c.x))
		}
		if !holdExts(t, c.x) || !holdNode(t, parsed) {
			t.Errorf("%s is not right", short(c.x))
		}
	}
}

// refused: of extensions that are not right there is no node.
func refused(t *testing.T, x api.Exts) {
	t.Helper()
	if got, e := exts.Put(x); e != api.ErrExts || !zero(got) {
		t.Errorf("%s: %.200x %v", short(x), got, e)
	}
	holdExts(t, x)
}

// P10.1, E1, P2: HasCA, CA and Path, each with each, alone and with all others beside them.
func TestCAAndPath(t *testing.T) {
	paths := []int{math.MinInt, math.MinInt32, -256, 127, 128, 255, 256, 256 + 5, 1<<32 - 1, 1 << 32, 1<<32 + 5, math.MaxInt32, math.MaxInt}
	for path := -10; path <= 120; path++ {
		paths = append(paths, path)
	}
	for _, path := range paths {
		for _, x := range []api.Exts{{}, all()} {
			x.HasCA, x.CA, x.Path = true, true, path
			if holdExts(t, x) != (path >= -1 && path <= 100) {
				t.Errorf("with CA: Path %d", path)
			}
			x.CA = false
			if holdExts(t, x) != (path == 0) {
				t.Errorf("without CA: Path %d", path)
			}
			x.HasCA = false
			if holdExts(t, x) != (path == 0) {
				t.Errorf("without HasCA: Path %d", path)
			}
			x.CA = true
			refused(t, x)
		}
	}
}

// P10.1, P10.2: each Usage.
func TestAllUsages(t *testing.T) {
	for mask := range 1 << 16 {
		x := api.Exts{Usage: uint16(mask)}
		if !holdExts(t, x) {
			t.Fatal(mask)
		}
		n, _ := exts.Put(x)
		if (len(n.Kids) == 0) != (mask == 0) {
			t.Fatal(mask, n)
		}
	}
}

// sized has lists of these lengths.
func sized(eku, princs, permit, exclude, odds int) api.Exts {
	x := api.Exts{
		Eku:     slices.Repeat([][]int{longOID}, eku),
		Princs:  slices.Repeat([]api.Princ{longWho}, princs),
		Permit:  slices.Repeat([]api.Name{longDN}, permit),
		Exclude: slices.Repeat([]api.Name{longDN}, exclude),
	}
	for i := range odds {
		x.Odd = append(x.Odd, api.Odd{Oid: numbered(i), Crit: true, Body: bytes.Repeat([]byte{byte(i)}, 1024)})
	}
	return x
}

// P10.1, P2: lists of all lengths about the bound; and the greatest extensions of all, which fit into a value.
func TestLengthsOfLists(t *testing.T) {
	for n := range 20 {
		for _, x := range []api.Exts{sized(n, 0, 0, 0, 0), sized(0, n, 0, 0, 0), sized(0, 0, n, 0, 0), sized(0, 0, 0, n, 0), sized(0, 0, 0, 0, n), sized(0, 0, n, 20-n, 0), sized(n, n, n, n, n)} {
			most := max(len(x.Eku), len(x.Princs), len(x.Permit), len(x.Exclude), len(x.Odd))
			if holdExts(t, x) != (most <= 16) {
				t.Error(n, most)
			}
		}
	}
	for _, n := range []int{17, 256, 1 << 12} {
		for _, x := range []api.Exts{{Eku: make([][]int, n)}, {Eku: slices.Repeat([][]int{{1, 2}}, n)}, {Princs: make([]api.Princ, n)}, {Permit: make([]api.Name, n)}, {Exclude: make([]api.Name, n)}, {Odd: make([]api.Odd, n)}} {
			refused(t, x)
		}
	}
	x := sized(16, 16, 16, 16, 16)
	x.HasCA, x.CA, x.Path, x.Usage = true, true, 100, 0xffff
	n, e := exts.Put(x)
	b, f := nodes.Print(n)
	if e != api.OK || f != api.OK || len(b) < 60000 || len(b) > api.MaxBody || !holdExts(t, x) || !holdNode(t, n) {
		t.Error("the greatest", e, f, len(b))
	}
}

// wrongObjects are arcs that are no object.
func wrongObjects() [][]int {
	return [][]int{
		nil, {}, {2}, {9}, {3, 1}, {-1, 1}, {2, -1}, {0, 40}, {1, 40}, {1, 1, -1}, {1, 1, 1 << 28}, {2, 1<<28 - 80}, {2, 1 << 28},
		{math.MaxInt, 1}, {1, math.MinInt}, {1, 1, math.MaxInt}, slices.Repeat([]int{1}, 17), slices.Repeat([]int{1}, 1000), {2, 5, 29, -19},
	}
}

// wrongNames are names that are not right.
func wrongNames() []api.Name {
	out := []api.Name{{{}}, {{Text: "a"}}, cn(long + "x"), cn("\xff"), slices.Repeat(cn("a"), 9), append(cn("a"), api.Attr{Oid: []int{3, 1}})}
	return append(out, make(api.Name, 9), slices.Repeat(cn("a"), 1000))
}

// wrongPrincs are principals that are not right.
func wrongPrincs() []api.Princ {
	return []api.Princ{
		{}, princ("R"), princ("", "a"), princ("R", ""), princ("R", "a", ""), princ(long+"x", "a"), princ("R", long+"x"), princ("\x7f", "a"), princ("R", "\x1f"), princ("R", "é"),
		princ("R", slices.Repeat([]string{"a"}, 9)...), princ("R", slices.Repeat([]string{"a"}, 1000)...),
	}
}

// P10.1, E1, P2: parts that are not right, be the one that is wrong the only one, the first, the last, or one between.
func TestPartsAreRefused(t *testing.T) {
	for at := range 16 {
		for _, arcs := range wrongObjects() {
			x := sized(16, 0, 0, 0, 0)
			x.Eku[at] = arcs
			refused(t, x)
			refused(t, api.Exts{Eku: x.Eku[:at+1]})
			refused(t, api.Exts{Eku: x.Eku[at:]})
			x = sized(0, 0, 0, 0, 16)
			x.Odd[at].Oid = arcs
			refused(t, x)
			refused(t, api.Exts{Odd: x.Odd[:at+1]})
			refused(t, api.Exts{Odd: x.Odd[at:]})
		}
		for _, p := range wrongPrincs() {
			x := sized(0, 16, 0, 0, 0)
			x.Princs[at] = p
			refused(t, x)
			refused(t, api.Exts{Princs: x.Princs[:at+1]})
			refused(t, api.Exts{Princs: x.Princs[at:]})
		}
		for _, n := range wrongNames() {
			x := sized(0, 0, 16, 0, 0)
			x.Permit[at] = n
			refused(t, x)
			refused(t, api.Exts{Permit: x.Permit[:at+1], Exclude: []api.Name{nil}})
			refused(t, api.Exts{Exclude: x.Permit[at:], Permit: []api.Name{nil}})
			refused(t, api.Exts{Exclude: x.Permit[:at+1]})
		}
	}
	x := all()
	for _, spoil := range []func(x *api.Exts){
		func(x *api.Exts) { x.HasCA = false },
		func(x *api.Exts) { x.CA = false },
		func(x *api.Exts) { x.Path = 101 },
		func(x *api.Exts) { x.Eku = append(x.Eku, []int{9}) },
		func(x *api.Exts) { x.Princs = append(x.Princs, api.Princ{}) },
		func(x *api.Exts) { x.Permit = append(x.Permit, cn("\xff")) },
		func(x *api.Exts) { x.Exclude = append(x.Exclude, cn("\xff")) },
		func(x *api.Exts) { x.Odd = append(x.Odd, api.Odd{}) },
	} {
		y := all()
		spoil(&y)
		refused(t, y)
		if !holdExts(t, x) {
			t.Fatal("what is right is refused")
		}
	}
}

// P10.1, E1: which objects odd extensions may have: none of the known ones, whether these are there or not, and none twice.
func TestObjectsOfOdds(t *testing.T) {
	for _, x := range []api.Exts{{}, all()} {
		x.Odd = nil
		for last := range 64 {
			for _, crit := range []bool{false, true} {
				x.Odd = []api.Odd{odd(crit, "\x30\x00", 2, 5, 29, last)}
				if holdExts(t, x) == slices.Contains([]int{19, 15, 37, 17, 30}, last) {
					t.Error(last, crit)
				}
				x.Odd = []api.Odd{odd(crit, "", 1, 9), odd(crit, "", 2, 5, 29, last), odd(crit, "", 1, 10)}
				holdExts(t, x)
			}
		}
		for _, arcs := range [][]int{{2, 5}, {2, 5, 29}, {2, 5, 29, 19, 0}, {2, 5, 29, 19, 19}, {2, 5, 29, 0, 19}, {2, 5, 19}, {2, 5, 30, 19}, {2, 4, 29, 19}, {2, 6, 29, 19}, {1, 5, 29, 19}, {2, 5, 29, 19 + 128}, {2, 5, 29, 19 << 7}} {
			x.Odd = []api.Odd{odd(false, "\x30\x00", arcs...)}
			if !holdExts(t, x) {
				t.Error(arcs)
			}
		}
	}
	for i := range 16 {
		for j := range i {
			x := sized(0, 0, 0, 0, 16)
			x.Odd[i] = api.Odd{Oid: slices.Clone(x.Odd[j].Oid), Body: []byte("another one")}
			refused(t, x)
			x.Odd[i].Oid = x.Odd[i].Oid[:15] // the beginning of another one is none of its own
			if !holdExts(t, x) {
				t.Error(i, j)
			}
		}
	}
}

// P10.1, P10.2: what odd extensions say, of all lengths about the bound, and of all bytes.
func TestBodiesOfOdds(t *testing.T) {
	for _, n := range []int{0, 1, 2, 127, 128, 255, 256, 1000, 1023, 1024, 1025, 1026, 2048, 65535, 65536, 1 << 20} {
		for _, crit := range []bool{false, true} {
			o := odd(crit, strings.Repeat("\x30", n), 1, 9)
			for _, odds := range [][]api.Odd{{o}, {o, odd(false, "", 1, 1)}, {odd(false, "", 1, 1), o}} {
				if holdExts(t, api.Exts{Odd: odds}) != (n <= 1024) {
					t.Error(n)
				}
			}
			if holdNode(t, seq(ext(oidOdd, crit, string(o.Body)))) != (n <= 1024) {
				t.Error(n)
			}
		}
	}
	for a := range 0x100 {
		for b := range 0x100 {
			if !holdExts(t, api.Exts{Odd: []api.Odd{odd(a%2 > 0, string([]byte{byte(a), byte(b)}), 1, 9)}}) {
				t.Error(a, b)
			}
		}
	}
}

// wrongWords are what no extension of a known object says.
func wrongWords() map[string][]string {
	yes, no, null, word := "\x01\x01\xff", "\x01\x01\x00", "\x05\x00", "\x1b\x01R"
	oid, empty := "\x06\x02\x2a\x03", "\x30\x00"
	who, ann := princBytes("R", "a"), cnBytes("Ann")
	number := func(body string) string { return der(0x02, body) }
	space := func(parts ...string) string { return der(0x30, parts...) }
	permit, exclude := der(0xa0, ann), der(0xa1, ann)
	return map[string][]string{
		oidCA: {
			der(0x30, no), der(0x30, no, number("\x00")), der(0x30, number("\x00")), der(0x30, number("\x05")), der(0x30, yes, number("\xff")), der(0x30, yes, number("\xfe")),
			der(0x30, yes, number("\x65")), der(0x30, yes, number("\x7f")), der(0x30, yes, number("\x80")), der(0x30, yes, number("\x00\xff")), der(0x30, yes, number("\x01\x00")), der(0x30, yes, number("\x01\x00\x00\x00\x05")),
			der(0x30, yes, number("\x00\x05")), der(0x30, yes, number("")), der(0x30, yes, number("\x05"), number("\x05")), der(0x30, number("\x05"), yes), der(0x30, yes, yes), der(0x30, yes, null),
			der(0x30, "\x01\x01\x01"), der(0x31), der(0x31, yes), der(0xa0), der(0x10), yes, null, der(0x30, empty), der(0x30, der(0x30, yes)), der(0x30, yes, der(0x0a, "\x05")), der(0x30, "\x81\x01\xff"),
		},
		oidUsage: {
			"\x03\x01\x00", "\x03\x02\x00\x00", "\x03\x02\x07\x81", "\x03\x02\x06\x80", "\x03\x02\x08\x80", "\x03\x03\x00\x80\x00", "\x03\x03\x07\x00\x00", "\x03\x04\x07\x00\x00\x80", "\x03\x04\x00\xff\xff\xff", "\x03\x00", "\x03\x01\x07",
			"\x04\x02\x07\x80", "\x02\x02\x07\x80", "\x83\x02\x07\x80", der(0x30, "\x03\x02\x07\x80"), number("\x01"), yes, null, empty,
		},
		oidEku: {
			empty, oid, der(0x30, slices.Repeat([]string{oid}, 17)...), der(0x30, slices.Repeat([]string{oid}, 400)...), der(0x30, oid, null), der(0x30, null, oid), der(0x30, "\x06\x00"), der(0x30, "\x06\x02\x2a\x83"), der(0x30, "\x06\x03\x2a\x80\x03"), der(0x30, oid, "\x06\x00"),
			der(0x30, "\x86\x02\x2a\x03"), der(0x30, "\x04\x02\x2a\x03"), der(0x31, oid), der(0xa0, oid), der(0x30, der(0x30, oid)), der(0x30, oid, empty), null, der(0x30, "\x06\x11"+strings.Repeat("\x29", 17)),
		},
		oidPrincs: {
			empty, who, der(0x30, slices.Repeat([]string{who}, 17)...), der(0x30, slices.Repeat([]string{who}, 400)...), der(0x30, who, null), der(0x30, null, who), der(0x30, ann), der(0x30, who, ann), der(0x30, empty), der(0x30, who, empty), der(0x30, princBytes("R")),
			der(0x30, princBytes("", "a")), der(0x30, princBytes("R", "")), der(0x30, princBytes(long+"x", "a")), der(0x30, princBytes("R", slices.Repeat([]string{"a"}, 9)...)), der(0x30, word, der(0x30, word)), der(0x30, der(0x30, der(0x0c, "R"), der(0x30, word))),
			der(0x31, who), der(0xa0, who), der(0x30, der(0x31, word, der(0x30, word))), null,
		},
		oidSpace: {
			empty, permit, exclude, ann, space(exclude, permit), space(permit, permit), space(exclude, exclude), space(permit, exclude, permit), space(permit, exclude, exclude), space(permit, exclude, empty), space(permit, null), space(null, permit), space(null),
			space(der(0xa0)), space(der(0xa1)), space(der(0xa0), exclude), space(permit, der(0xa1)), space(der(0xa2, ann)), space(permit, der(0xa2, ann)), space(permit, exclude, der(0xa2, ann)), space(der(0xa0, ann, null)), space(der(0xa0, null)), space(der(0xa0, who)), space(der(0xa1, ann, who)),
			space(der(0x80, ann)), space(der(0x80)), space(der(0xe0, ann)), space(der(0x30, ann)), space(ann), space(ann, ann), space(der(0xa0, slices.Repeat([]string{ann}, 17)...)), space(der(0xa1, slices.Repeat([]string{ann}, 17)...)), space(permit, der(0xa1, slices.Repeat([]string{ann}, 400)...)),
			space(der(0xa0, cnBytes("\xff"))), space(der(0xa0, cnBytes(long+"x"))), space(permit, der(0xa1, cnBytes(long+"x"))), space(der(0xa0, der(0x30, ann))), space(der(0xa0, strings.Repeat(ann, 2)), exclude, exclude), der(0x31, permit), der(0xa0, permit), null,
		},
	}
}

// rightWords are what such extensions say, and whether they are critical.
func rightWords() map[string]string {
	return map[string]string{
		oidCA:     "\x30\x06\x01\x01\xff\x02\x01\x05",
		oidUsage:  "\x03\x02\x02\x84",
		oidEku:    "\x30\x04\x06\x02\x2a\x03",
		oidPrincs: der(0x30, princBytes("R", "a")),
		oidSpace:  der(0x30, der(0xa0, cnBytes("Ann")), der(0xa1, "\x30\x00")),
	}
}

func critical(oid string) bool { return oid != oidEku && oid != oidPrincs }

// P10.1, E1, P2: extensions of known objects that do not say what they must, or are critical where they must not be.
func TestWordsAreRefused(t *testing.T) {
	nothing := func(n api.Node) {
		t.Helper()
		if got, e := exts.Get(n); e != api.ErrExts || !oneExts(got, api.Exts{}) {
			t.Errorf("%.200x: got %s %v", n, short(got), e)
		}
		holdNode(t, n)
	}
	right := rightWords()
	for oid, words := range wrongWords() {
		words = append(words, "", "\x30", "\x30\x01", "\x30\x80", right[oid]+"\x00", "\x00"+right[oid], right[oid][:len(right[oid])-1], right[oid]+right[oid], der(0x04, right[oid]), "\x30\x81"+right[oid][1:], string(make([]byte, 1<<17)))
		for _, said := range words {
			if asOdd := api.OK; said != "" {
				_, asOdd = exts.Get(seq(ext(oidOdd, false, said))) // another one may say nearly anything
				if (asOdd == api.OK) != (len(said) <= 1024) {
					t.Errorf("%x: %v", said, asOdd)
				}
			}
			for _, crit := range []bool{false, true} {
				nothing(seq(ext(oid, crit, said)))
				nothing(seq(ext(oid, crit, said), ext(oidOdd, true, "x")))
				nothing(seq(ext(oidOdd, true, "x"), ext(oid, crit, said)))
			}
		}
		if !holdNode(t, seq(ext(oid, critical(oid), right[oid]))) {
			t.Errorf("%x is refused", right[oid])
		}
		nothing(seq(ext(oid, !critical(oid), right[oid])))
		nothing(seq(ext(oidOdd, false, ""), ext(oid, critical(oid), right[oid])))
		nothing(seq(ext(oid, critical(oid), right[oid]), ext(oid, critical(oid), right[oid])))
		for other, said := range right {
			if other != oid {
				nothing(seq(ext(oid, critical(oid), said)))
			}
		}
	}
}

// P10.1: extensions stand in the order of the table, each at most once; all orders of some of them.
func TestOrderOfExts(t *testing.T) {
	right := rightWords()
	var some []api.Node
	for _, oid := range []string{oidCA, oidUsage, oidEku, oidPrincs, oidSpace} {
		some = append(some, ext(oid, critical(oid), right[oid]))
	}
	some = append(some, ext(oidOdd, false, "a"), ext("\x2a", true, "b"))
	held, count := 0, 0
	var further func(n api.Node)
	further = func(n api.Node) {
		count++
		if holdNode(t, n) {
			held++
		}
		if len(n.Kids) == 4 {
			return
		}
		for _, kid := range some {
			further(seq(append(slices.Clone(n.Kids), kid)...))
		}
	}
	further(seq())
	// Of n, in order: some of the five (k of them), and of the two others none, one, or both, in two orders.
	want := 0
	for k, of := range []int{1, 5, 10, 10, 5, 1} {
		for odds, ways := range []int{1, 2, 2} {
			if k+odds <= 4 {
				want += of * ways
			}
		}
	}
	if held != want || count != 1+7+49+343+2401 {
		t.Error(held, want, count)
	}
}

// near are nodes near one, that differ from it at one place, wherever it is.
func near(n api.Node) []api.Node {
	var out []api.Node
	tags := []byte{0, 0x01, 0x02, 0x04, 0x05, 0x06, 0x0c, 0x10, 0x24, 0x30, 0x31, 0x80, 0xa0, 0xa3, 0xb0, 0xff}
	for _, tag := range tags {
		if tag != n.Tag {
			out = append(out, api.Node{Tag: tag, Body: n.Body, Kids: n.Kids})
		}
	}
	for _, body := range [][]byte{append(bytes.Clone(n.Body), 0), append([]byte{0}, n.Body...), nil, {0}, {0xff}, n.Body[:max(len(n.Body)-1, 0)]} {
		out = append(out, api.Node{Tag: n.Tag, Body: body, Kids: n.Kids})
	}
	with := func(kids []api.Node) { out = append(out, api.Node{Tag: n.Tag, Body: n.Body, Kids: kids}) }
	for at := range len(n.Kids) + 1 {
		for _, kid := range []api.Node{{}, seq(), leaf(0x01, "\xff"), leaf(0x04, ""), leaf(0x06, oidOdd), leaf(0x05, ""), ext(oidOdd, false, ""), ext(oidOdd, true, "")} {
			with(slices.Insert(slices.Clone(n.Kids), at, kid))
		}
		if at == len(n.Kids) {
			break
		}
		with(slices.Delete(slices.Clone(n.Kids), at, at+1))
		with(slices.Insert(slices.Clone(n.Kids), at, n.Kids[at]))
		for other := range at {
			kids := slices.Clone(n.Kids)
			kids[at], kids[other] = kids[other], kids[at]
			with(kids)
		}
		for _, kid := range near(n.Kids[at]) {
			kids := slices.Clone(n.Kids)
			kids[at] = kid
			with(kids)
		}
	}
	return out
}

// P10.1, P10.2, E1: nodes near some extensions', and nodes that are nothing of the kind.
func TestNodesNearExts(t *testing.T) {
	whole, e := exts.Put(all())
	if e != api.OK {
		t.Fatal(e)
	}
	right := 0
	list := near(whole)
	for _, n := range list {
		if holdNode(t, n) {
			right++
		}
	}
	for oid, said := range rightWords() {
		for _, n := range near(seq(ext(oid, critical(oid), said))) {
			holdNode(t, n)
		}
	}
	if right < 10 || right > len(list)/2 {
		t.Error(right, len(list))
	}
	for _, n := range []api.Node{{}, leaf(0x04, ""), leaf(0x05, ""), over(0x31), over(0xa3), over(0xa3, whole), seq(whole), over(0x31, whole.Kids...), leaf(0x30, allBytes), leaf(0x04, allBytes), leaf(0x10, "")} {
		if got, e := exts.Get(n); e != api.ErrExts || !oneExts(got, api.Exts{}) {
			t.Errorf("%.100x: got %s %v", n, short(got), e)
		}
		holdNode(t, n)
	}
	full := api.Node{Tag: api.TagSeq, Body: []byte{}, Kids: []api.Node{}}
	if !holdNode(t, full) || !holdNode(t, seq(api.Node{Tag: api.TagSeq, Body: []byte{}, Kids: []api.Node{{Tag: api.TagOID, Body: []byte(oidOdd), Kids: []api.Node{}}, {Tag: api.TagOctets, Body: []byte{}}}})) {
		t.Error("empty lists that are not nil")
	}
}

// P10.1: more extensions than there may be.
func TestManyExts(t *testing.T) {
	whole, e := exts.Put(all())
	if e != api.OK {
		t.Fatal(e)
	}
	for n := range 30 {
		some := seq()
		for i := range n {
			some.Kids = append(some.Kids, ext(string([]byte{0x28 + byte(i)}), i%2 == 0, "x"))
		}
		if holdNode(t, some) != (n <= 16) {
			t.Error(n)
		}
		beside := seq(append(slices.Clone(whole.Kids), some.Kids...)...)
		if holdNode(t, beside) != (n <= 9) { // two are there already, and the tenth has the object of one of them
			t.Error(n)
		}
	}
}

// P10.2, P10.1: each byte changed to each other one, left out, and put in: what is still a node is read as told.
func TestEachByteChanged(t *testing.T) {
	hold := func(b string) {
		if n, _, e := nodes.Parse([]byte(b)); e == api.OK {
			holdNode(t, n)
		}
	}
	for at := range len(allBytes) {
		for x := range 0x100 {
			hold(allBytes[:at] + string([]byte{byte(x)}) + allBytes[at+1:])
		}
	}
	for oid, said := range rightWords() { // the same within what one says, its lengths mended
		for at := range len(said) + 1 {
			for x := range 0x100 {
				s := string([]byte{byte(x)})
				holdNode(t, seq(ext(oid, critical(oid), said[:at]+s+said[at:])))
				if at < len(said) {
					holdNode(t, seq(ext(oid, critical(oid), said[:at]+s+said[at+1:])))
				}
			}
			holdNode(t, seq(ext(oid, critical(oid), said[:at])))
			holdNode(t, seq(ext(oid, critical(oid), said[at:])))
		}
	}
}

func drawObject(next func(int) int) []int {
	arcs := []int{next(3), next(40)}
	for range next(15) {
		arcs = append(arcs, next(1<<28)>>next(28))
	}
	return arcs
}

func drawWord(next func(int) int) string {
	return strings.Repeat(string([]byte{byte(0x20 + next(0x5f))}), 1+next(1+next(64)))
}

func drawName(next func(int) int) api.Name {
	var n api.Name
	for range next(1 + next(9)) {
		n = append(n, api.Attr{Oid: drawObject(next), Text: drawWord(next)[1:] + []string{"", "é", "\U0001f600"}[next(3)]})
	}
	if len(n) > 0 && next(100) == 0 {
		n[0].Text = "\xff"
	}
	return n
}

func drawPrinc(next func(int) int) api.Princ {
	p := princ(drawWord(next), drawWord(next))
	for range next(1 + next(8)) {
		p.Names = append(p.Names, drawWord(next))
	}
	return p
}

// drawList is a short list of what is drawn, now and then a long one.
func drawList[T any](next func(int) int, draw func(func(int) int) T) []T {
	var out []T
	for range next(1 + next(1+next(19))) {
		out = append(out, draw(next))
	}
	return out
}

func drawOdd(next func(int) int) api.Odd {
	o := api.Odd{Oid: []int{2, 5, 29, 40 + next(100)}, Crit: next(2) > 0, Body: bytes.Repeat([]byte{byte(next(0x100))}, next(1+next(1030)))}
	if next(50) == 0 {
		o.Oid[3] = 15 + next(20)
	}
	return o
}

// drawExts are extensions, right but for now and then a part.
func drawExts(next func(int) int) api.Exts {
	x := api.Exts{HasCA: next(2) > 0, Usage: uint16(next(1<<16) >> next(17))}
	if x.CA = x.HasCA && next(2) > 0; x.CA {
		x.Path = next(103) - 1
	}
	x.Eku = drawList(next, drawObject)
	x.Princs = drawList(next, drawPrinc)
	x.Permit = drawList(next, drawName)
	x.Exclude = drawList(next, drawName)
	x.Odd = drawList(next, drawOdd)
	return x
}

// spoil changes a node somewhere within it, or within what an extension says.
func spoil(next func(int) int, n api.Node) api.Node {
	n.Kids = slices.Clone(n.Kids)
	if len(n.Kids) > 0 && next(6) > 0 {
		at := next(len(n.Kids))
		n.Kids[at] = spoil(next, n.Kids[at])
		return n
	}
	if inner, _, e := nodes.Parse(n.Body); n.Tag == api.TagOctets && e == api.OK && next(6) > 0 {
		if b, e := nodes.Print(spoil(next, inner)); e == api.OK {
			n.Body = b
		}
		return n
	}
	tags := []byte{0x30, 0x31, 0x06, 0x0c, 0x1b, 0x04, 0x01, 0x02, 0xa0, 0xa1}
	switch next(6) {
	case 0:
		n.Tag = tags[next(len(tags))]
	case 1:
		n.Body = append(bytes.Clone(n.Body), byte(next(0x100)))
	case 2:
		n.Body = bytes.Clone(n.Body)
		for i := range n.Body[:min(len(n.Body), 1)] {
			n.Body[i] ^= 1 << next(8)
		}
	case 3:
		n.Kids = slices.Insert(n.Kids, next(len(n.Kids)+1), []api.Node{seq(), leaf(0x01, "\xff"), leaf(0x02, "\x05"), ext(oidOdd, true, "")}[next(4)])
	case 4:
		slices.Reverse(n.Kids)
	case 5:
		n.Kids = n.Kids[:len(n.Kids)-min(len(n.Kids), 1)]
	}
	return n
}

// P10.2, P10.1: drawn extensions there and back, with something changed in their nodes; and no two have one node.
func TestThereAndBack(t *testing.T) {
	next := drawn()
	whose := map[string]string{}
	right, spoilt := 0, 0
	for range 5000 {
		x := drawExts(next)
		if !holdExts(t, x) {
			continue
		}
		right++
		n, _ := exts.Put(x)
		b, e := nodes.Print(n)
		what := fmt.Sprint(x)
		if other, is := whose[string(b)]; e != api.OK || is && other != what {
			t.Fatalf("%.200s and %.200s: %.200x %v", other, what, b, e)
		}
		whose[string(b)] = what
		for range 8 {
			n = spoil(next, n)
			if holdNode(t, n) {
				spoilt++
			}
		}
	}
	if right < 2000 || right == 5000 || spoilt < 500 {
		t.Error("too few right ones, or no wrong ones", right, spoilt)
	}
}

// P1: nodes that have themselves among their kids, and very wide, deep and long ones; extensions of very many and very long parts.
func TestCallsEnd(t *testing.T) {
	round := seq(leaf(api.TagOID, oidOdd), leaf(api.TagOctets, ""))
	round.Kids = append(round.Kids, round)
	round.Kids[2].Kids = round.Kids
	twin := make([]api.Node, 2)
	for i := range twin {
		twin[i] = api.Node{Tag: api.TagSeq, Kids: twin}
	}
	deep := seq()
	for range 1 << 16 {
		deep = seq(deep)
	}
	double := seq()
	for range 60 {
		double = seq(double, double)
	}
	long := strings.Repeat("\x30", 1<<24)
	nested := ""
	for len(nested) < 1<<13 {
		nested = der(0x30, nested)
	}
	far := leaf(api.TagOID, "\x55"+strings.Repeat("\x81", 1<<20))
	wide := slices.Repeat([]api.Node{ext(oidOdd, true, "x")}, 1<<20)
	list := []api.Node{
		round, seq(round), twin[0], deep, seq(deep), double, seq(wide...), over(api.TagSeq, seq(wide...)), seq(seq(far, leaf(api.TagOctets, "x"))), leaf(api.TagSeq, long), seq(leaf(api.TagOID, long)),
		seq(slices.Repeat([]api.Node{ext(oidOdd, true, long)}, 100)...), seq(ext(oidOdd, false, ""), ext("\x29", false, long)),
	}
	for oid := range rightWords() {
		for _, said := range []string{long, nested, der(0x30, strings.Repeat("\x30\x00", 1<<14)), der(0x30, strings.Repeat("\xa0\x00", 1<<14)), der(0x30, strings.Repeat("\xa0\x02\x30\x00", 1<<13)), der(0x30, der(0xa0, strings.Repeat("\x30\x00", 1<<14))), der(0x03, strings.Repeat("\x00", 1<<15)), der(0x30, der(0x02, strings.Repeat("\x01", 1<<15)))} {
			list = append(list, seq(ext(oid, critical(oid), said)))
		}
	}
	for i, n := range list {
		if got, e := exts.Get(n); e != api.ErrExts || !oneExts(got, api.Exts{}) {
			t.Error(i, short(got), e)
		}
	}
	arcs := slices.Repeat([]int{1}, 1<<20)
	many := slices.Repeat(cn("a"), 1<<20)
	for _, x := range []api.Exts{
		{Eku: make([][]int, 1<<20)}, {Eku: [][]int{arcs}}, {Princs: make([]api.Princ, 1<<20)}, {Princs: []api.Princ{princ(long, long)}}, {Princs: []api.Princ{{Realm: "R", Names: slices.Repeat([]string{"a"}, 1<<20)}}}, {Permit: make([]api.Name, 1<<20)}, {Permit: []api.Name{many}}, {Exclude: []api.Name{many, cn(long)}}, {Exclude: []api.Name{cn(long)}},
		{Odd: make([]api.Odd, 1<<20)}, {Odd: slices.Repeat([]api.Odd{{Oid: arcs}}, 16)}, {Odd: []api.Odd{odd(false, long, 1, 9)}}, {HasCA: true, CA: true, Path: math.MaxInt}, {HasCA: true, CA: true, Path: math.MinInt},
	} {
		if got, e := exts.Put(x); e != api.ErrExts || !zero(got) {
			t.Error(short(x), e)
		}
	}
}

// roomy is a list with spare room behind it, filled with what stands there.
func roomy[T any](list []T, behind T) []T {
	out := append(make([]T, 0, len(list)+4), list...)
	for i := len(list); i < cap(out); i++ {
		out[:cap(out)][i] = behind
	}
	return out
}

// roomyExts are all, with spare room in each list; spare is what stands behind.
func roomyExts() api.Exts {
	x := all()
	for i := range x.Eku {
		x.Eku[i] = roomy(x.Eku[i], 77)
	}
	for i := range x.Princs {
		x.Princs[i].Names = roomy(x.Princs[i].Names, "spare")
	}
	for _, list := range [][]api.Name{x.Permit, x.Exclude} {
		for i, n := range list {
			for j := range n {
				n[j].Oid = roomy(n[j].Oid, 77)
			}
			list[i] = roomy(n, api.Attr{Text: "spare"})
		}
	}
	for i := range x.Odd {
		x.Odd[i].Oid, x.Odd[i].Body = roomy(x.Odd[i].Oid, 77), roomy(x.Odd[i].Body, 0xee)
	}
	x.Eku, x.Princs = roomy(x.Eku, []int{77}), roomy(x.Princs, princ("spare"))
	x.Permit, x.Exclude = roomy(x.Permit, cn("spare")), roomy(x.Exclude, cn("spare"))
	x.Odd = roomy(x.Odd, odd(true, "spare", 77))
	return x
}

// lists are all of extensions, by their kinds, with their spare room.
type lists struct {
	arcs   [][]int
	words  [][]string
	bodies [][]byte
	names  [][]api.Attr
	spaces [][]api.Name
	ekus   [][][]int
	princs [][]api.Princ
	odds   [][]api.Odd
}

// whole is a list with its spare room.
func whole[T any](list []T) []T { return list[:cap(list)] }

func listsOf(x api.Exts) lists {
	all := lists{ekus: [][][]int{whole(x.Eku)}, princs: [][]api.Princ{whole(x.Princs)}, odds: [][]api.Odd{whole(x.Odd)}, spaces: [][]api.Name{whole(x.Permit), whole(x.Exclude)}}
	for _, arcs := range x.Eku {
		all.arcs = append(all.arcs, whole(arcs))
	}
	for _, p := range x.Princs {
		all.words = append(all.words, whole(p.Names))
	}
	for _, n := range slices.Concat(x.Permit, x.Exclude) {
		all.names = append(all.names, whole(n))
		for _, a := range n {
			all.arcs = append(all.arcs, whole(a.Oid))
		}
	}
	for _, o := range x.Odd {
		all.arcs = append(all.arcs, whole(o.Oid))
		all.bodies = append(all.bodies, whole(o.Body))
	}
	return all
}

// marked writes over each list what no other one has, and tells whether each still has its own behind that: then no two share any.
func marked[T any](lists [][]T, mark func(i int) T, is func(T, int) bool) bool {
	for i, list := range lists {
		for j := range list {
			list[j] = mark(i)
		}
	}
	for i, list := range lists {
		for _, x := range list {
			if !is(x, i) {
				return false
			}
		}
	}
	return true
}

// apart writes over all of extensions' lists; it tells whether no two of one kind share any.
func apart(x api.Exts) bool {
	all := listsOf(x)
	number := func(i int) int { return i }
	isNumber := func(x, i int) bool { return x == i }
	text := func(i int) string { return fmt.Sprint(i) }
	isText := func(s string, i int) bool { return s == fmt.Sprint(i) }
	name := func(i int) api.Name { return cn(fmt.Sprint(i)) }
	isName := func(n api.Name, i int) bool { return oneName(n, cn(fmt.Sprint(i))) }
	return marked(all.arcs, number, isNumber) && marked(all.words, text, isText) &&
		marked(all.bodies, func(i int) byte { return byte(i) }, func(b byte, i int) bool { return b == byte(i) }) &&
		marked(all.names, func(i int) api.Attr { return api.Attr{Text: text(i)} }, func(a api.Attr, i int) bool { return a.Text == text(i) }) &&
		marked(all.spaces, name, isName) &&
		marked(all.ekus, func(int) []int { return nil }, func(a []int, _ int) bool { return a == nil }) &&
		marked(all.princs, func(int) api.Princ { return princ("gone") }, func(p api.Princ, _ int) bool { return p.Realm == "gone" }) &&
		marked(all.odds, func(int) api.Odd { return odd(true, "gone") }, func(o api.Odd, _ int) bool { return string(o.Body) == "gone" })
}

// bodies and families are all lists of a node, with their spare room.
func bodies(n api.Node) [][]byte {
	all := [][]byte{whole(n.Body)}
	for _, kid := range n.Kids {
		all = append(all, bodies(kid)...)
	}
	return all
}

func families(n api.Node) [][]api.Node {
	all := [][]api.Node{whole(n.Kids)}
	for _, kid := range n.Kids {
		all = append(all, families(kid)...)
	}
	return all
}

// apartNode writes over all that a node has; it tells whether no two lists of it share any.
func apartNode(n api.Node) bool {
	inner, outer := bodies(n), families(n)
	return marked(inner, func(i int) byte { return byte(i) }, func(b byte, i int) bool { return b == byte(i) }) &&
		marked(outer, func(i int) api.Node { return api.Node{Tag: byte(i)} }, func(n api.Node, i int) bool { return n.Tag == byte(i) })
}

// P3: extensions that are handed in are not changed, nor their spare room, nor kept; their node is new memory.
func TestPutTakesNothing(t *testing.T) {
	want, _ := asTold(all())
	x := roomyExts()
	got, e := exts.Put(x)
	again, f := exts.Put(x)
	if e != api.OK || f != api.OK || !one(got, want) || !one(again, want) {
		t.Fatalf("%x %v, and then %x %v", got, e, again, f)
	}
	if !apartNode(got) {
		t.Fatal("two lists of the node lie in one another")
	}
	if short(listsOf(x)) != short(listsOf(roomyExts())) || fmt.Sprint(listsOf(x)) != fmt.Sprint(listsOf(roomyExts())) || !one(again, want) {
		t.Fatal("what was handed in has changed, or the node lies in it, or in another one")
	}
	if !apart(x) || !one(again, want) {
		t.Fatal("the extensions lie in their node")
	}
	for _, wrong := range []func(x *api.Exts){func(x *api.Exts) { x.Path = 101 }, func(x *api.Exts) { x.Odd[0].Oid = roomy([]int{9}, 77) }, func(x *api.Exts) { x.Permit[0] = cn("\xff") }} {
		x, kept := roomyExts(), roomyExts()
		wrong(&x)
		wrong(&kept)
		if _, e := exts.Put(x); e != api.ErrExts || fmt.Sprint(listsOf(x)) != fmt.Sprint(listsOf(kept)) {
			t.Fatal("what was refused has changed", e)
		}
	}
}

// roomyNode is a node whose lists all have spare room.
func roomyNode(n api.Node) api.Node {
	out := api.Node{Tag: n.Tag, Body: roomy(n.Body, 0xee)}
	for _, kid := range n.Kids {
		out.Kids = append(out.Kids, roomyNode(kid))
	}
	out.Kids = roomy(out.Kids, leaf(0x99, "spare"))
	return out
}

// P3: so it is of a node that is handed in, and of the extensions that come out.
func TestGetTakesNothing(t *testing.T) {
	told, _ := asTold(all())
	unchanged := func(n, kept api.Node) bool {
		return slices.EqualFunc(bodies(n), bodies(kept), bytes.Equal) && slices.EqualFunc(families(n), families(kept), func(a, b []api.Node) bool { return slices.EqualFunc(a, b, one) })
	}
	n := roomyNode(told)
	got, e := exts.Get(n)
	again, f := exts.Get(n)
	if e != api.OK || f != api.OK || !oneExts(got, all()) || !oneExts(again, all()) {
		t.Fatalf("%s %v, and then %s %v", short(got), e, short(again), f)
	}
	if !unchanged(n, roomyNode(told)) {
		t.Fatal("the node has changed")
	}
	if !apart(got) {
		t.Fatal("two lists of the extensions lie in one another")
	}
	if !unchanged(n, roomyNode(told)) || !oneExts(again, all()) {
		t.Fatal("the extensions lie in their node, or in others")
	}
	if !apartNode(n) || !oneExts(again, all()) {
		t.Fatal("the node lies in its extensions")
	}
	for _, wrong := range []api.Node{seq(told, told), seq(append(slices.Clone(told.Kids), ext(oidCA, true, "\x30\x00"))...), over(0x31, told.Kids...)} {
		n := roomyNode(wrong)
		if _, e := exts.Get(n); e != api.ErrExts || !unchanged(n, roomyNode(wrong)) {
			t.Fatal("what was refused has changed", e)
		}
	}
}

func ExamplePut() {
	n, err := exts.Put(api.Exts{HasCA: true, CA: true, Path: -1})
	fmt.Println(len(n.Kids), err == api.OK)
	fmt.Printf("% X\n", n.Kids[0].Kids[2].Body)
	_, err = exts.Put(api.Exts{CA: true})
	fmt.Println(err)
	// Output:
	// 1 true
	// 30 03 01 01 FF
	// warder: error 101
}
