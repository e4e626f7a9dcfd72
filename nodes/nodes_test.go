package nodes_test

import (
	"bytes"
	"slices"
	"strings"
	"testing"

	"warder/api"
	"warder/ints"
	"warder/nodes"
	"warder/texts"
	"warder/tlv"
)

// drawn tells numbers that look drawn, and are the same each time.
func drawn() func(below int) int {
	state := uint64(1)
	return func(below int) int {
		state = state*6364136223846793005 + 1442695040888963407
		return int(state>>33) % below
	}
}

// allStrings does it with each string of at most so many of these letters.
func allStrings(letters []string, most int, do func(s string)) {
	var deeper func(s string, n int)
	deeper = func(s string, n int) {
		do(s)
		if n == most {
			return
		}
		for _, x := range letters {
			deeper(s+x, n+1)
		}
	}
	deeper("", 0)
}

func allBytes() []string {
	var all []string
	for i := range 0x100 {
		all = append(all, string([]byte{byte(i)}))
	}
	return all
}

func leaf(tag byte, body string) api.Node { return api.Node{Tag: tag, Body: []byte(body)} }

func over(tag byte, kids ...api.Node) api.Node { return api.Node{Tag: tag, Kids: kids} }

// within is a node that lies in so many others.
func within(outer int, n api.Node) api.Node {
	for range outer {
		n = over(api.TagSeq, n)
	}
	return n
}

// same: are two nodes one, be their empty lists nil or not?
func same(a, b api.Node) bool {
	return a.Tag == b.Tag && bytes.Equal(a.Body, b.Body) && slices.EqualFunc(a.Kids, b.Kids, same)
}

func zero(n api.Node) bool { return n.Tag == 0 && n.Body == nil && n.Kids == nil }

var universal = []byte{0x01, 0x02, 0x03, 0x04, 0x05, 0x06, 0x0c, 0x13, 0x16, 0x17, 0x18, 0x1b, 0x30, 0x31}

func isCompound(tag byte) bool { return tag/0x20%2 == 1 }

// tagAsTold is rule 2 of the section Types.
func tagAsTold(tag byte) api.Errno {
	if tag%0x20 == 0x1f {
		return api.ErrTag
	}
	if tag < 0x40 && !slices.Contains(universal, tag) {
		return api.ErrValue
	}
	return api.OK
}

// bodyAsTold is rule 4: may a node that is not compound have this body?
func bodyAsTold(tag byte, body []byte) bool {
	e := api.OK
	switch tag {
	case 0x01:
		_, e = ints.Bool(body)
	case 0x02:
		_, e = ints.Int(body)
	case 0x06:
		_, e = ints.OID(body)
	case 0x17, 0x18:
		_, e = texts.Time(tag, body)
	case 0x05:
		return string(body) == ""
	case 0x0c, 0x13, 0x16, 0x1b:
		return texts.Right(tag, body)
	case 0x03:
		if string(body) == "\x00" {
			return true
		}
		if len(body) < 2 || body[0] > 7 {
			return false
		}
		for bit := range body[0] {
			if body[len(body)-1]&(1<<bit) != 0 {
				return false
			}
		}
	}
	return e == api.OK
}

// printAsTold is N1, by the section Types, rule by rule.
func printAsTold(n api.Node, outer int) ([]byte, api.Errno) {
	if outer > 31 {
		return nil, api.ErrDeep
	}
	if e := tagAsTold(n.Tag); e != api.OK {
		return nil, e
	}
	if isCompound(n.Tag) && len(n.Body) != 0 || !isCompound(n.Tag) && len(n.Kids) != 0 {
		return nil, api.ErrValue
	}
	if !isCompound(n.Tag) && !bodyAsTold(n.Tag, n.Body) {
		return nil, api.ErrValue
	}
	var each []string
	for _, kid := range n.Kids {
		b, e := printAsTold(kid, outer+1)
		if e != api.OK {
			return nil, e
		}
		each = append(each, string(b))
	}
	if n.Tag == 0x31 && !slices.IsSorted(each) {
		return nil, api.ErrOrder
	}
	body := string(n.Body) + strings.Join(each, "")
	if len(body) > 65535 {
		return nil, api.ErrTooMany
	}
	return tlv.Put(n.Tag, []byte(body))
}

// valueAsTold is N2, of one value: the node, where it ends, where what is wrong begins, and what it is.
func valueAsTold(b []byte, at, outer int) (n api.Node, end, wrongAt int, e api.Errno) {
	tag, from, to, e := tlv.Head(b, at)
	if e != api.OK {
		return api.Node{}, 0, at, e
	}
	if outer > 31 {
		return api.Node{}, 0, at, api.ErrDeep
	}
	if e := tagAsTold(tag); e != api.OK {
		return api.Node{}, 0, at, e
	}
	if !isCompound(tag) {
		if !bodyAsTold(tag, b[from:to]) {
			return api.Node{}, 0, at, api.ErrValue
		}
		return api.Node{Tag: tag, Body: bytes.Clone(b[from:to])}, to, 0, api.OK
	}
	n.Tag = tag
	var each []string
	for from < to {
		kid, end, wrongAt, e := valueAsTold(b[:to], from, outer+1)
		if e != api.OK {
			return api.Node{}, 0, wrongAt, e
		}
		n.Kids = append(n.Kids, kid)
		each = append(each, string(b[from:end]))
		from = end
	}
	if tag == 0x31 && !slices.IsSorted(each) {
		return api.Node{}, 0, at, api.ErrOrder
	}
	return n, to, 0, api.OK
}

func parseAsTold(b []byte) (api.Node, int, api.Errno) {
	n, end, at, e := valueAsTold(b, 0, 0)
	if e == api.OK && end != len(b) {
		return api.Node{}, end, api.ErrRest
	}
	return n, at, e
}

// holdNode: it is checked and printed as told, and parsed as it was.
func holdNode(t *testing.T, n api.Node) {
	t.Helper()
	want, wrong := printAsTold(n, 0)
	if e := nodes.Check(n); e != wrong {
		t.Fatalf("%x: checked %v, not %v", n, e, wrong)
	}
	b, e := nodes.Print(n)
	if e != wrong || !bytes.Equal(b, want) {
		t.Fatalf("%x: printed %x %v, not %x %v", n, b, e, want, wrong)
	}
	if e != api.OK {
		if b != nil {
			t.Fatalf("%x: %v with bytes", n, e)
		}
		return
	}
	again, at, e := nodes.Parse(b)
	if e != api.OK || at != 0 || !same(again, n) {
		t.Fatalf("%x: printed %x, and parsed %x %d %v", n, b, again, at, e)
	}
}

// holdBytes: they are parsed as told, and printed as they stood.
func holdBytes(t *testing.T, b []byte) {
	t.Helper()
	n, at, e := nodes.Parse(b)
	want, wantAt, wrong := parseAsTold(b)
	if e != wrong || at != wantAt || !same(n, want) {
		t.Fatalf("%x: parsed %x %d %v, not %x %d %v", b, n, at, e, want, wantAt, wrong)
	}
	if e != api.OK {
		if !zero(n) {
			t.Fatalf("%x: %v with a node %x", b, e, n)
		}
		return
	}
	if e := nodes.Check(n); e != api.OK {
		t.Fatalf("%x: parsed %x, and checked %v", b, n, e)
	}
	if again, e := nodes.Print(n); e != api.OK || !bytes.Equal(again, b) {
		t.Fatalf("%x: parsed %x, and printed %x %v", b, n, again, e)
	}
}

// P4.1, P4.2, N1, N2: right nodes and their bytes.
func TestNodesAndTheirBytes(t *testing.T) {
	for _, c := range []struct {
		n api.Node
		b string
	}{
		{over(api.TagSeq, leaf(api.TagInt, "\x05")), "\x30\x03\x02\x01\x05"},
		{over(api.TagSeq), "\x30\x00"},
		{over(api.TagSet), "\x31\x00"},
		{leaf(api.TagNull, ""), "\x05\x00"},
		{leaf(api.TagOctets, ""), "\x04\x00"},
		{leaf(api.TagOctets, "ab"), "\x04\x02ab"},
		{leaf(api.TagUTF8, ""), "\x0c\x00"},
		{leaf(api.TagUTF8, "é"), "\x0c\x02\xc3\xa9"},
		{leaf(api.TagPrintable, "Ann"), "\x13\x03Ann"},
		{leaf(api.TagIA5, "a@b"), "\x16\x03a@b"},
		{leaf(api.TagGeneral, "krbtgt"), "\x1b\x06krbtgt"},
		{leaf(api.TagBool, "\xff"), "\x01\x01\xff"},
		{leaf(api.TagBits, "\x00"), "\x03\x01\x00"},
		{leaf(api.TagBits, "\x07\x80"), "\x03\x02\x07\x80"},
		{leaf(api.TagBits, "\x00abcdefgh"), "\x03\x09\x00abcdefgh"},
		{leaf(api.TagOID, "\x2a\x86\x48"), "\x06\x03\x2a\x86\x48"},
		{leaf(api.TagUTCTime, "700101000000Z"), "\x17\x0d700101000000Z"},
		{leaf(api.TagTime, "20500101000000Z"), "\x18\x0f20500101000000Z"},
		{leaf(0x80, "\x01\x02"), "\x80\x02\x01\x02"},
		{leaf(0x40, ""), "\x40\x00"},
		{over(0xa0), "\xa0\x00"},
		{over(0x60, over(api.TagSeq)), "\x60\x02\x30\x00"},
		{over(api.TagSet, leaf(api.TagInt, "\x04"), leaf(api.TagInt, "\x05")), "\x31\x06\x02\x01\x04\x02\x01\x05"},
		{over(api.TagSeq, leaf(api.TagInt, "\x05"), over(0xa0, leaf(api.TagNull, ""))), "\x30\x07\x02\x01\x05\xa0\x02\x05\x00"},
		{over(api.TagSeq, leaf(api.TagOctets, strings.Repeat("x", 0x80))), "\x30\x81\x83\x04\x81\x80" + strings.Repeat("x", 0x80)},
		{over(api.TagSeq, leaf(api.TagOctets, strings.Repeat("x", 0x7e))), "\x30\x81\x80\x04\x7e" + strings.Repeat("x", 0x7e)},
	} {
		if b, e := nodes.Print(c.n); e != api.OK || string(b) != c.b {
			t.Errorf("%x: %x %v, not %x", c.n, b, e, c.b)
		}
		if n, at, e := nodes.Parse([]byte(c.b)); e != api.OK || at != 0 || !same(n, c.n) {
			t.Errorf("%x: %x %d %v, not %x", c.b, n, at, e, c.n)
		}
		holdNode(t, c.n)
		holdBytes(t, []byte(c.b))
	}
}

var (
	null   = leaf(api.TagNull, "")
	five   = leaf(api.TagInt, "\x05")
	four   = leaf(api.TagInt, "\x04")
	noTag  = leaf(0x1f, "")
	noBool = leaf(api.TagBool, "\x01")
	falls  = over(api.TagSet, five, four)
	long   = leaf(api.TagOctets, strings.Repeat("x", 65536))
)

// P4.1, N1, P2: what is wrong with a node, in the order in which the chapter names it.
func TestNodesAreRefused(t *testing.T) {
	for i, c := range []struct {
		n    api.Node
		want api.Errno
	}{
		{api.Node{}, api.ErrValue},
		{noTag, api.ErrTag},
		{over(0x3f), api.ErrTag},
		{leaf(0xdf, "a"), api.ErrTag},
		{over(0xff, null), api.ErrTag},
		{leaf(0x00, ""), api.ErrValue},
		{leaf(0x0a, "\x01"), api.ErrValue},
		{leaf(0x10, ""), api.ErrValue}, // a sequence that is not compound
		{leaf(0x11, ""), api.ErrValue},
		{over(0x22, five), api.ErrValue},
		{over(0x24), api.ErrValue}, // a compound text of bytes
		{over(0x25), api.ErrValue},
		{leaf(0x3e, ""), api.ErrValue},
		{api.Node{Tag: api.TagSeq, Body: []byte{1}}, api.ErrValue},
		{api.Node{Tag: 0xa0, Body: []byte{5, 0}}, api.ErrValue},
		{api.Node{Tag: api.TagSet, Body: []byte{0}, Kids: []api.Node{null}}, api.ErrValue},
		{api.Node{Tag: api.TagInt, Body: []byte{5}, Kids: []api.Node{null}}, api.ErrValue},
		{api.Node{Tag: api.TagNull, Kids: []api.Node{null}}, api.ErrValue},
		{api.Node{Tag: api.TagOctets, Kids: []api.Node{null}}, api.ErrValue},
		{api.Node{Tag: 0x80, Kids: []api.Node{{}}}, api.ErrValue},
		{noBool, api.ErrValue},
		{falls, api.ErrOrder},
		{long, api.ErrTooMany},
		// The first rule that is broken tells.
		{api.Node{Tag: 0x1f, Kids: []api.Node{falls}}, api.ErrTag},
		{api.Node{Tag: 0x3f, Body: []byte{1}, Kids: []api.Node{falls}}, api.ErrTag},
		{api.Node{Tag: 0x1f, Body: long.Body}, api.ErrTag},
		{leaf(0x0a, string(long.Body)), api.ErrValue},
		{over(0x24, noTag), api.ErrValue},
		{api.Node{Tag: api.TagSeq, Body: []byte{1}, Kids: []api.Node{noTag}}, api.ErrValue},
		{api.Node{Tag: 0x80, Body: long.Body, Kids: []api.Node{noTag}}, api.ErrValue},
		{leaf(api.TagPrintable, string(long.Body)+"*"), api.ErrValue},
		{leaf(api.TagNull, string(long.Body)), api.ErrValue},
		{leaf(api.TagPrintable, string(long.Body)), api.ErrTooMany},
		// A kid's error stands ahead of what is wrong with all kids, and behind what is wrong ahead of them.
		{over(api.TagSet, five, four, noTag), api.ErrTag},
		{over(api.TagSet, five, four, noBool), api.ErrValue},
		{over(api.TagSet, five, four, long), api.ErrTooMany},
		{over(api.TagSeq, noBool, noTag), api.ErrValue},
		{over(api.TagSeq, noTag, noBool), api.ErrTag},
		{over(api.TagSeq, falls, noTag), api.ErrOrder},
		{over(api.TagSeq, five, over(0xa0, null, falls), long), api.ErrOrder},
		{over(api.TagSeq, long, falls), api.ErrTooMany},
		{over(api.TagSet, leaf(0x80, string(long.Body[1:])), four), api.ErrOrder}, // too long a body as well
		{over(api.TagSet, leaf(0x80, string(long.Body[1:])), four, noTag), api.ErrTag},
		{over(api.TagSeq, leaf(0x80, string(long.Body[1:])), four, noTag), api.ErrTag},
		{over(api.TagSeq, leaf(0x80, string(long.Body[1:])), four, falls), api.ErrOrder},
		{over(api.TagSeq, leaf(0x80, string(long.Body[1:])), leaf(0x80, string(long.Body[1:])), falls), api.ErrOrder},
	} {
		if e := nodes.Check(c.n); e != c.want {
			t.Errorf("%d: checked %v, not %v", i, e, c.want)
		}
		if b, e := nodes.Print(c.n); b != nil || e != c.want {
			t.Errorf("%d: printed %d bytes, %v, not %v", i, len(b), e, c.want)
		}
		holdNode(t, c.n)
	}
}

// P4.1, N2, P2: what is wrong with bytes, and where, from the left.
func TestBytesAreRefused(t *testing.T) {
	for _, c := range []struct {
		b    string
		at   int
		want api.Errno
	}{
		{"\x31\x06\x02\x01\x05\x02\x01\x04", 0, api.ErrOrder},
		{"\x30\x03\x02\x01\x05\x00", 5, api.ErrRest},
		{"\x30\x02\x1f\x00", 2, api.ErrTag},
		{"\x24\x00", 0, api.ErrValue},
		{"\x01\x01\x01", 0, api.ErrValue},
		{"\x30\x81\x03\x02\x01\x05", 0, api.ErrLength},
		// What Head tells of the first value.
		{"", 0, api.ErrEnd},
		{"\x30", 0, api.ErrEnd},
		{"\x1f", 0, api.ErrTag},
		{"\x3f\x00", 0, api.ErrTag},
		{"\xff\x80", 0, api.ErrTag},
		{"\x30\x80", 0, api.ErrLength},
		{"\x30\x83\x00\x00\x00", 0, api.ErrLength},
		{"\x30\x01", 0, api.ErrEnd},
		{"\x00", 0, api.ErrEnd},
		{"\x01\x02\x01", 0, api.ErrEnd}, // no truth either, but it is not whole
		{"\x24\x80", 0, api.ErrLength},
		// Of those within it, up to its end.
		{"\x30\x03\x02\x02\x05", 2, api.ErrEnd},
		{"\x30\x03\x02\x02\x05\x06", 2, api.ErrEnd}, // the byte behind is not its own
		{"\x30\x01\x02\x01\x05", 2, api.ErrEnd},
		{"\x30\x04\x02\x01\x05\x02\x01\x05", 5, api.ErrEnd},
		{"\x30\x04\x30\x03\x02\x01\x05", 2, api.ErrEnd},
		{"\x30\x06\x30\x03\x02\x02\x05\x00", 4, api.ErrEnd},
		{"\x30\x04\x05\x81\x00\x00", 2, api.ErrLength},
		{"\x30\x03\x05\x81\x00", 2, api.ErrLength},
		{"\x30\x02\x05\x81", 2, api.ErrEnd},
		{"\x30\x02\x05\x80", 2, api.ErrLength},
		{"\x30\x01\x1f", 2, api.ErrTag},
		{"\x30\x04\x05\x00\x1f\x00", 4, api.ErrTag},
		{"\x30\x01\x05", 2, api.ErrEnd},
		// Tags and bodies.
		{"\x00\x00", 0, api.ErrValue},
		{"\x0a\x01\x01", 0, api.ErrValue},
		{"\x10\x00", 0, api.ErrValue},
		{"\x11\x00", 0, api.ErrValue},
		{"\x22\x03\x02\x01\x05", 0, api.ErrValue},
		{"\x24\x02\x1f\x00", 0, api.ErrValue}, // ahead of what is within it
		{"\x24\x01\x00", 0, api.ErrValue},
		{"\x05\x01\x00", 0, api.ErrValue},
		{"\x02\x00", 0, api.ErrValue},
		{"\x02\x02\x00\x01", 0, api.ErrValue},
		{"\x02\x09\x00\xff\xff\xff\xff\xff\xff\xff\xff", 0, api.ErrValue},
		{"\x06\x00", 0, api.ErrValue},
		{"\x06\x02\x2a\x80", 0, api.ErrValue},
		{"\x03\x00", 0, api.ErrValue},
		{"\x03\x01\x01", 0, api.ErrValue},
		{"\x03\x02\x08\x00", 0, api.ErrValue},
		{"\x03\x02\x01\x01", 0, api.ErrValue},
		{"\x0c\x01\xff", 0, api.ErrValue},
		{"\x13\x01*", 0, api.ErrValue},
		{"\x16\x01\x80", 0, api.ErrValue},
		{"\x1b\x01\x1f", 0, api.ErrValue},
		{"\x17\x0f20500101000000Z", 0, api.ErrValue},
		{"\x18\x0d700101000000Z", 0, api.ErrValue},
		{"\x18\x0f20490101000000Z", 0, api.ErrValue},
		{"\x30\x05\x02\x01\x05\x01\x00", 5, api.ErrValue},
		{"\xa0\x04\x30\x02\x02\x00", 4, api.ErrValue},
		// The first from the left: what is wrong with all kids, and with what is behind all, comes behind.
		{"\x30\x05\x01\x01\x01\x1f\x00", 2, api.ErrValue},
		{"\x30\x05\x1f\x00\x01\x01\x01", 2, api.ErrTag},
		{"\x31\x09\x02\x01\x05\x02\x01\x04\x01\x01\x01", 8, api.ErrValue},
		{"\x31\x07\x02\x01\x05\x02\x01\x04\x1f", 8, api.ErrTag},
		{"\x31\x07\x02\x01\x05\x02\x01\x04\x05", 8, api.ErrEnd},
		{"\x30\x0a\x31\x06\x02\x01\x05\x02\x01\x04\x1f\x00", 2, api.ErrOrder},
		{"\x30\x0a\x05\x00\x31\x06\x02\x01\x05\x02\x01\x04", 4, api.ErrOrder},
		{"\x31\x0d\x02\x01\x05\x31\x06\x02\x01\x05\x02\x01\x04\x05\x00", 5, api.ErrOrder},
		{"\x31\x0a\x31\x06\x02\x01\x05\x02\x01\x04\x05\x00", 2, api.ErrOrder}, // its own kids fall too
		{"\x31\x06\x02\x01\x05\x02\x01\x04\x00", 0, api.ErrOrder},
		{"\x01\x01\x01\x00", 0, api.ErrValue},
		{"\x30\x02\x1f\x00\x00", 2, api.ErrTag},
		// What is left.
		{"\x05\x00\x05\x00", 2, api.ErrRest},
		{"\x05\x00\x1f", 2, api.ErrRest},
		{"\x30\x00\x00", 2, api.ErrRest},
		{"\x30\x81\x80" + strings.Repeat("\x05\x00", 64) + "\x00", 131, api.ErrRest},
		{"\x04\x82\xff\xff" + strings.Repeat("x", 65535) + "x", 65539, api.ErrRest},
	} {
		if n, at, e := nodes.Parse([]byte(c.b)); !zero(n) || at != c.at || e != c.want {
			t.Errorf("%.20x: %x %d %v, not %d %v", c.b, n, at, e, c.at, c.want)
		}
		holdBytes(t, []byte(c.b))
	}
	if n, at, e := nodes.Parse(nil); !zero(n) || at != 0 || e != api.ErrEnd {
		t.Error(n, at, e)
	}
}

// P4.1, P4.2: each tag, with a body, with kids, with both, with neither.
func TestNodesOfEachTag(t *testing.T) {
	bodies := []string{"", "\x00", "\xff", "\x05\x00", "\x2a\x03", "a", "*", "\x80", "\x07\x80", "700101000000Z", "20500101000000Z"}
	families := [][]api.Node{nil, {}, {null}, {four, five}, {five, four}, {five, five}, {noBool}, {noTag}, {null, over(0xa1, falls)}}
	for i := range 0x100 {
		tag := byte(i)
		for _, body := range bodies {
			for _, kids := range families {
				n := api.Node{Tag: tag, Body: []byte(body), Kids: kids}
				holdNode(t, n)
				holdNode(t, over(api.TagSeq, null, n))
				holdNode(t, over(api.TagSet, n, five))
			}
			b := append([]byte{tag, byte(len(body))}, body...)
			holdBytes(t, b)
			holdBytes(t, append([]byte{0x30, byte(len(b))}, b...))
			holdBytes(t, append([]byte{0xbe, byte(len(b))}, b...))
		}
	}
}

// P4.1, rule 4: bits are any number of bytes, and those that are not used are 0.
func TestBits(t *testing.T) {
	for unused := range 0x100 {
		for last := range 0x100 {
			body := string([]byte{byte(unused), byte(last)})
			zeros := 0
			for zeros < 8 && last>>zeros&1 == 0 {
				zeros++
			}
			want := api.OK
			if unused > 7 || unused > zeros {
				want = api.ErrValue
			}
			if e := nodes.Check(leaf(api.TagBits, body)); e != want {
				t.Fatalf("%x: %v", body, e)
			}
			holdNode(t, leaf(api.TagBits, body))
			holdNode(t, leaf(api.TagBits, body[:1]+"\xff"+body[1:]))
			holdNode(t, leaf(api.TagBits, body+"\x00"))
			holdNode(t, leaf(api.TagBits, body+"\xff"))
		}
		holdNode(t, leaf(api.TagBits, string([]byte{byte(unused)})))
	}
	holdNode(t, leaf(api.TagBits, ""))
	if e := nodes.Check(leaf(api.TagBits, "\x00"+strings.Repeat("\xff", 65534))); e != api.OK {
		t.Error(e)
	}
}

// P4.1, rule 1: a node lies in at most 31 others.
func TestDeepNodes(t *testing.T) {
	for _, n := range []api.Node{null, over(api.TagSeq), over(api.TagSet, four, five), over(0xa0), leaf(api.TagUTF8, "é")} {
		for outer := range 40 {
			whole := within(outer, n)
			deepest := outer
			if len(n.Kids) > 0 {
				deepest++
			}
			want := api.OK
			if deepest > 31 {
				want = api.ErrDeep
			}
			if e := nodes.Check(whole); e != want {
				t.Errorf("%x in %d: %v", n, outer, e)
			}
			holdNode(t, whole)
		}
	}
	// Ahead of all else that is wrong with it, but not of what is wrong ahead of it.
	for _, n := range []api.Node{noTag, noBool, falls, long, {Tag: api.TagSeq, Body: []byte{1}}} {
		if e := nodes.Check(within(32, n)); e != api.ErrDeep {
			t.Errorf("%.20x: %v", n, e)
		}
		if e := nodes.Check(within(31, n)); e == api.OK {
			t.Errorf("%.20x: %v", n, e)
		}
	}
	if e := nodes.Check(within(31, over(api.TagSet, five, four))); e != api.ErrDeep {
		t.Error(e)
	}
	if e := nodes.Check(over(api.TagSeq, noBool, within(31, null))); e != api.ErrValue {
		t.Error(e)
	}
	if e := nodes.Check(over(api.TagSeq, within(31, null), noBool)); e != api.ErrDeep {
		t.Error(e)
	}
}

// deepBytes are bytes that lie in so many sequences, each of a length of one byte.
func deepBytes(outer int, inner string) string {
	for range outer {
		inner = "\x30" + string([]byte{byte(len(inner))}) + inner
	}
	return inner
}

// P4.1, rule 1, N2: so it is of bytes; but Head's error stands ahead.
func TestDeepBytes(t *testing.T) {
	for _, c := range []struct {
		outer int
		inner string
		at    int
		want  api.Errno
	}{
		{31, "\x05\x00", 0, api.OK},
		{31, "\x30\x00", 0, api.OK},
		{31, "\x31\x00", 0, api.OK},
		{31, "\x30\x02\x05\x00", 64, api.ErrDeep},
		{32, "\x05\x00", 64, api.ErrDeep},
		{32, "\x30\x00", 64, api.ErrDeep},
		{33, "\x05\x00", 64, api.ErrDeep},
		{40, "\x05\x00", 64, api.ErrDeep},
		{32, "\x1f\x00", 64, api.ErrTag},
		{32, "\x05", 64, api.ErrEnd},
		{32, "\x05\x80", 64, api.ErrLength},
		{32, "\x05\x01", 64, api.ErrEnd},
		{32, "\x01\x01\x01", 64, api.ErrDeep},
		{32, "\x24\x00", 64, api.ErrDeep},
		{31, "\x01\x01\x01", 62, api.ErrValue},
		{31, "\x31\x06\x02\x01\x05\x02\x01\x04", 64, api.ErrDeep},
		{30, "\x31\x06\x02\x01\x05\x02\x01\x04", 60, api.ErrOrder},
		{31, "\x05\x00\x01\x01\x01", 64, api.ErrValue},
	} {
		b := []byte(deepBytes(c.outer, c.inner))
		if n, at, e := nodes.Parse(b); at != c.at || e != c.want || zero(n) != (e != api.OK) {
			t.Errorf("%x in %d: %x %d %v, not %d %v", c.inner, c.outer, n, at, e, c.at, c.want)
		}
		holdBytes(t, b)
	}
}

// P4.1, rule 6: a set's kids do not fall, by their bytes; others' may.
func TestSetsInOrder(t *testing.T) {
	for _, c := range []struct {
		kids []api.Node
		want api.Errno
	}{
		{nil, api.OK},
		{[]api.Node{five}, api.OK},
		{[]api.Node{five, five}, api.OK},
		{[]api.Node{four, five}, api.OK},
		{[]api.Node{five, four}, api.ErrOrder},
		{[]api.Node{four, five, four}, api.ErrOrder},
		{[]api.Node{five, four, five}, api.ErrOrder},
		{[]api.Node{four, five, five, null, over(api.TagSeq), leaf(0x80, ""), over(0xa0)}, api.OK},
		{[]api.Node{over(0xa0), leaf(0x80, "")}, api.ErrOrder}, // bytes above 7F are above
		{[]api.Node{leaf(api.TagInt, "\x7f"), leaf(api.TagInt, "\x80")}, api.OK},
		{[]api.Node{leaf(api.TagInt, "\xff"), leaf(api.TagInt, "\x00")}, api.ErrOrder},
		{[]api.Node{leaf(api.TagInt, "\x7f"), leaf(api.TagInt, "\x00\x80")}, api.OK}, // the shorter one is ahead
		{[]api.Node{leaf(api.TagInt, "\x00\x80"), leaf(api.TagInt, "\x7f")}, api.ErrOrder},
		{[]api.Node{leaf(api.TagOctets, "b"), leaf(api.TagOctets, "aa")}, api.OK},
		{[]api.Node{leaf(api.TagOctets, "aa"), leaf(api.TagOctets, "b")}, api.ErrOrder},
		{[]api.Node{leaf(api.TagOctets, strings.Repeat("a", 127)), leaf(api.TagOctets, strings.Repeat("a", 128))}, api.OK},
		{[]api.Node{leaf(api.TagOctets, strings.Repeat("z", 255)), leaf(api.TagOctets, strings.Repeat("a", 256))}, api.OK},
		{[]api.Node{over(api.TagSeq, four), over(api.TagSeq, five)}, api.OK},
		{[]api.Node{over(api.TagSeq, five), over(api.TagSeq, four)}, api.ErrOrder},
		{[]api.Node{over(api.TagSeq, five, four), over(api.TagSet, four, five)}, api.OK},
	} {
		holdNode(t, over(api.TagSet, c.kids...))
		if e := nodes.Check(over(api.TagSet, c.kids...)); e != c.want {
			t.Errorf("%x: %v, not %v", c.kids, e, c.want)
		}
		for _, tag := range []byte{api.TagSeq, 0x71, 0xa0, 0xb0, 0xb1, 0xf1} {
			holdNode(t, over(tag, c.kids...))
			if e := nodes.Check(over(tag, c.kids...)); e != api.OK {
				t.Errorf("%x of tag %x: %v", c.kids, tag, e)
			}
		}
	}
}

// P4.1, rule 7: bodies of as many bytes as there may be, and of more.
func TestLongBodies(t *testing.T) {
	for _, n := range []int{0x7f, 0x80, 0xff, 0x100, 65530, 65531, 65532, 65535, 65536, 65540, 1 << 17, 1 << 20} {
		body := strings.Repeat("x", n)
		for _, tag := range []byte{api.TagOctets, api.TagUTF8, api.TagPrintable, api.TagIA5, api.TagGeneral, 0x40, 0x80} {
			holdNode(t, leaf(tag, body))
			holdNode(t, over(api.TagSeq, leaf(tag, body)))
			holdNode(t, over(api.TagSet, over(0xa0, leaf(tag, body))))
		}
	}
	for _, c := range []struct {
		n    api.Node
		want api.Errno
	}{
		{leaf(api.TagOctets, strings.Repeat("x", 65535)), api.OK},
		{leaf(api.TagOctets, strings.Repeat("x", 65536)), api.ErrTooMany},
		{over(api.TagSeq, leaf(api.TagOctets, strings.Repeat("x", 65531))), api.OK},
		{over(api.TagSeq, leaf(api.TagOctets, strings.Repeat("x", 65532))), api.ErrTooMany},
		{over(api.TagSeq, slices.Repeat([]api.Node{null}, 32767)...), api.OK},
		{over(api.TagSeq, slices.Repeat([]api.Node{null}, 32768)...), api.ErrTooMany},
		{over(api.TagSet, slices.Repeat([]api.Node{five}, 21845)...), api.OK},
		{over(api.TagSet, slices.Repeat([]api.Node{five}, 21846)...), api.ErrTooMany},
		{over(api.TagSeq, slices.Repeat([]api.Node{leaf(api.TagOctets, strings.Repeat("x", 65535))}, 3)...), api.ErrTooMany},
	} {
		if e := nodes.Check(c.n); e != c.want {
			t.Errorf("%.20x: %v, not %v", c.n, e, c.want)
		}
		holdNode(t, c.n)
	}
}

// P4.2, P1: all bytes, of at most three, and more of those that say most.
func TestAllShortBytes(t *testing.T) {
	allStrings(allBytes(), 2, func(s string) { holdBytes(t, []byte(s)) })
	for _, head := range []string{"\x01\x01", "\x02\x01", "\x03\x02\x00", "\x03\x02\x03", "\x06\x01", "\x06\x02\x88", "\x13\x01", "\x30\x02", "\x30\x02\x05", "\x31\x04\x02\x01\x05", "\x31\x06\x02\x01\x05\x02\x01"} {
		allStrings(allBytes(), 2, func(s string) { holdBytes(t, []byte(head+s)) })
	}
	letters := []string{"\x00", "\x01", "\x02", "\x03", "\x05", "\x1f", "\x24", "\x30", "\x31", "\x80", "\x81", "\xa0", "\xff"}
	allStrings(letters, 5, func(s string) { holdBytes(t, []byte(s)) })
	few := []string{"\x00", "\x02", "\x04", "\x05", "\x31", "\xa0"}
	allStrings(few, 7, func(s string) { holdBytes(t, []byte(s)) })
}

// drawLeaf is a right node that is not compound.
func drawLeaf(next func(int) int) api.Node {
	text := strings.Repeat("Ann-Lee", next(3))
	switch next(9) {
	case 0:
		return leaf(api.TagBool, string(ints.PutBool(next(2) == 0)))
	case 1:
		return leaf(api.TagInt, string(ints.PutInt(int64(next(1<<31)-1<<30)<<next(30))))
	case 2:
		return leaf(api.TagBits, string(ints.PutBits(uint16(next(0x10000)))))
	case 3:
		return leaf(api.TagOctets, text+string([]byte{byte(next(0x100))}))
	case 4:
		return null
	case 5:
		b, _ := ints.PutOID([]int{next(3), next(40), next(api.MaxArc), next(300)})
		return leaf(api.TagOID, string(b))
	case 6:
		tag, b, _ := texts.PutTime(int64(next(1<<31)) * int64(1+next(100)))
		return leaf(tag, string(b))
	case 7:
		tags := []byte{api.TagUTF8, api.TagPrintable, api.TagIA5, api.TagGeneral}
		return leaf(tags[next(len(tags))], text)
	}
	return leaf(byte(0x40+0x40*next(3)+next(0x1f)), text)
}

// drawNode is a right node.
func drawNode(next func(int) int, deep int) api.Node {
	if deep == 0 || next(3) == 0 {
		return drawLeaf(next)
	}
	tag := byte(0x20 + 0x40 + 0x40*next(3) + next(0x1f))
	if next(2) == 0 {
		tag = byte(api.TagSeq + next(2))
	}
	n := over(tag)
	for range next(5) {
		n.Kids = append(n.Kids, drawNode(next, deep-1))
	}
	if tag == api.TagSet {
		slices.SortFunc(n.Kids, func(a, b api.Node) int {
			x, _ := printAsTold(a, 0)
			y, _ := printAsTold(b, 0)
			return bytes.Compare(x, y)
		})
	}
	return n
}

// spoil changes a node somewhere within it.
func spoil(next func(int) int, n api.Node) api.Node {
	if len(n.Kids) > 0 && next(3) > 0 {
		n.Kids = slices.Clone(n.Kids)
		at := next(len(n.Kids))
		n.Kids[at] = spoil(next, n.Kids[at])
		return n
	}
	switch next(4) {
	case 0:
		n.Tag ^= 1 << next(8)
	case 1:
		n.Body = append(bytes.Clone(n.Body), byte(next(0x100)))
	case 2:
		n.Kids = append(slices.Clone(n.Kids), null)
	case 3:
		n.Kids = slices.Clone(n.Kids)
		slices.Reverse(n.Kids)
	}
	return n
}

// P4.1, P4.2: drawn nodes there and back, and with something changed in them; and no two have the same bytes.
func TestNodesThereAndBack(t *testing.T) {
	next := drawn()
	seen := map[string]api.Node{}
	right := 0
	for range 30000 {
		n := drawNode(next, 1+next(5))
		if b, e := nodes.Print(n); e != api.OK {
			t.Fatalf("%x: %x %v", n, b, e)
		}
		for range 4 {
			holdNode(t, n)
			if b, e := nodes.Print(n); e == api.OK {
				if other, is := seen[string(b)]; is && !same(other, n) {
					t.Fatalf("%x and %x: %x", n, other, b)
				}
				seen[string(b)] = n
				right++
			}
			n = spoil(next, n)
		}
	}
	if len(seen) < 20000 || right > 110000 {
		t.Error("too few right nodes, or wrong ones", len(seen), right)
	}
}

// P4.1, P4.2, P1: bytes of drawn nodes, with some changed, left out and put in.
func TestBytesChanged(t *testing.T) {
	next := drawn()
	for range 10000 {
		b, _ := nodes.Print(drawNode(next, 1+next(5)))
		holdBytes(t, b)
		for range 20 {
			c := bytes.Clone(b)
			at := next(len(c))
			switch next(4) {
			case 0:
				c[at] ^= 1 << next(8)
			case 1:
				c[at] = byte(next(0x100))
			case 2:
				c = slices.Delete(c, at, at+1)
			case 3:
				c = slices.Insert(c, at, byte(next(0x40)))
			}
			holdBytes(t, c)
			holdBytes(t, c[:next(len(c)+1)])
		}
	}
}

// P4.1, P4.2: every byte of one node's bytes changed to every other one, cut off, and left out.
func TestEachByteChanged(t *testing.T) {
	n := over(api.TagSeq,
		over(0xa0, five),
		over(api.TagSet, leaf(api.TagBool, "\xff"), four, leaf(api.TagBits, "\x03\x08"), null),
		leaf(api.TagOID, "\x2a\x86\x48"), leaf(api.TagUTF8, "é"), leaf(api.TagPrintable, "Ann"), leaf(api.TagIA5, "a@b"), leaf(api.TagGeneral, "~"),
		over(api.TagSeq, leaf(api.TagUTCTime, "700101000000Z"), leaf(api.TagTime, "20500101000000Z")),
		leaf(0x81, "\x01\x02"), leaf(api.TagOctets, strings.Repeat("x", 130)))
	holdNode(t, n)
	b, e := nodes.Print(n)
	if e != api.OK {
		t.Fatal(e)
	}
	for at := range b {
		for x := range 0x100 {
			c := bytes.Clone(b)
			c[at] = byte(x)
			holdBytes(t, c)
		}
		holdBytes(t, b[:at])
		holdBytes(t, b[at:])
		holdBytes(t, slices.Delete(bytes.Clone(b), at, at+1))
		holdBytes(t, slices.Insert(bytes.Clone(b), at, 0))
		holdBytes(t, slices.Insert(bytes.Clone(b), at, b[at]))
	}
}

// P1: a node whose kids have it among them again, one of very many kids, one within very many others, and long bytes.
func TestCallsEnd(t *testing.T) {
	round := make([]api.Node, 2)
	round[0] = null
	round[1] = api.Node{Tag: api.TagSeq, Kids: round}
	if e := nodes.Check(round[1]); e != api.ErrDeep {
		t.Error(e)
	}
	if b, e := nodes.Print(round[1]); b != nil || e != api.ErrDeep {
		t.Error(len(b), e)
	}
	wide := over(api.TagSet, slices.Repeat([]api.Node{null}, 1<<18)...)
	if e := nodes.Check(wide); e != api.ErrTooMany {
		t.Error(e)
	}
	wide.Kids = append(wide.Kids, five)
	if e := nodes.Check(wide); e != api.ErrOrder {
		t.Error(e)
	}
	wide.Kids = append(wide.Kids, noTag)
	if e := nodes.Check(wide); e != api.ErrTag {
		t.Error(e)
	}
	if e := nodes.Check(within(1<<16, null)); e != api.ErrDeep {
		t.Error(e)
	}
	twice := null // of as many nodes as 2 to the power of 31
	for range 31 {
		twice = over(api.TagSeq, twice, twice)
	}
	if e := nodes.Check(twice); e != api.ErrTooMany {
		t.Error(e)
	}
	for _, x := range []string{"\x00", "\x30", "\x1f", "\xff"} {
		holdBytes(t, bytes.Repeat([]byte(x), 1<<18))
	}
	if _, at, e := nodes.Parse(bytes.Repeat([]byte{5, 0}, 1<<18)); at != 2 || e != api.ErrRest {
		t.Error(at, e)
	}
	flat := bytes.Repeat([]byte{5, 0}, 32767)
	holdBytes(t, append([]byte{0x30, 0x82, 0xff, 0xfe}, flat...))
	holdBytes(t, append([]byte{0x31, 0x82, 0xff, 0xfe}, flat...))
}

// spare is b with spare room behind it that is not to be changed.
func spare(b []byte) []byte {
	roomy := append(make([]byte, 0, len(b)+16), b...)
	for i := len(b); i < cap(roomy); i++ {
		roomy[:cap(roomy)][i] = 0xee
	}
	return roomy
}

// lists are all bodies of a node, with their spare room.
func lists(n api.Node) [][]byte {
	all := [][]byte{n.Body[:cap(n.Body)]}
	for _, kid := range n.Kids {
		all = append(all, lists(kid)...)
	}
	return all
}

// families are all lists of kids of a node, with their spare room.
func families(n api.Node) [][]api.Node {
	all := [][]api.Node{n.Kids[:cap(n.Kids)]}
	for _, kid := range n.Kids {
		all = append(all, families(kid)...)
	}
	return all
}

func scribble(b []byte) {
	b = b[:cap(b)]
	for i := range b {
		b[i] ^= 0x55
	}
}

// P3: what is handed in is not changed, nor its spare room, nor kept; an answer is new memory.
func TestPrintTakesNothing(t *testing.T) {
	for _, want := range []api.Errno{api.OK, api.ErrOrder, api.ErrValue} {
		body := spare([]byte("\x05"))
		kids := make([]api.Node, 0, 8)
		kids = append(kids, leaf(api.TagOctets, "abc"), api.Node{Tag: api.TagInt, Body: body}, over(api.TagSeq, leaf(api.TagUTF8, "é")))
		kids[:4][3] = leaf(0x99, "spare")
		n := over(api.TagSeq, kids...)
		switch want {
		case api.ErrOrder:
			n.Tag = api.TagSet
		case api.ErrValue:
			n.Body = spare([]byte("\x01"))
		}
		as := append([][]byte(nil), lists(n)...)
		for i := range as {
			as[i] = bytes.Clone(as[i])
		}
		b, e := nodes.Print(n)
		if e != want || nodes.Check(n) != want {
			t.Fatal(e)
		}
		kept := bytes.Clone(b)
		if !slices.EqualFunc(lists(n), as, bytes.Equal) || !same(kids[:4][3], leaf(0x99, "spare")) {
			t.Fatalf("%x has changed", n)
		}
		scribble(b)
		if !slices.EqualFunc(lists(n), as, bytes.Equal) {
			t.Fatal("the bytes lie in the node")
		}
		again, _ := nodes.Print(n)
		if !bytes.Equal(again, kept) {
			t.Fatalf("%x, and then %x", kept, again)
		}
		for _, l := range lists(n) {
			scribble(l)
		}
		if !bytes.Equal(again, kept) {
			t.Fatal("the node lies in the bytes")
		}
	}
	n := leaf(api.TagOctets, "abc")
	b, _ := nodes.Print(n)
	scribble(b)
	if string(n.Body) != "abc" {
		t.Error("the bytes lie in the node")
	}
}

// P3: so it is of bytes that are handed in, and no two lists of a node share any.
func TestParseTakesNothing(t *testing.T) {
	inner := "\x02\x01\x05\x04\x03abc\x05\x00\x31\x06\x02\x01\x04\x02\x01\x05\xa0\x02\x30\x00\x04\x03abc"
	for _, s := range []string{"\x30" + string([]byte{byte(len(inner))}) + inner, "\x04\x03abc", "\x30\x03\x02\x01\x05\x00", "\x31\x06\x02\x01\x05\x02\x01\x04"} {
		b := spare([]byte(s))
		whole := bytes.Clone(b[:cap(b)])
		n, at, e := nodes.Parse(b)
		if !bytes.Equal(b[:cap(b)], whole) {
			t.Fatalf("%x has changed", s)
		}
		again, atAgain, eAgain := nodes.Parse(b)
		if !same(n, again) || at != atAgain || e != eAgain {
			t.Fatalf("%x: %x %d %v, and then %x %d %v", s, n, at, e, again, atAgain, eAgain)
		}
		scribble(b)
		if !same(n, again) {
			t.Fatal("both answers changed otherwise")
		}
		if want, _, _ := parseAsTold([]byte(s)); !same(n, want) {
			t.Fatal("the node lies in the bytes")
		}
		b = bytes.Clone(b)
		all := lists(n)
		as := make([][]byte, len(all))
		for i := range all {
			as[i] = bytes.Clone(all[i])
		}
		for i := range all {
			scribble(all[i])
			for j := range all {
				if j > i && !bytes.Equal(all[j], as[j]) {
					t.Fatalf("%x: list %d lies in list %d", s, j, i)
				}
			}
		}
		kids := families(n)
		for i := range kids {
			for j := range kids[i] {
				kids[i][j].Tag = byte(i + 1)
			}
		}
		for i := range kids {
			for j := range kids[i] {
				if kids[i][j].Tag != byte(i+1) {
					t.Fatalf("%x: kids %d lie in others", s, i)
				}
			}
		}
		if want, _, _ := parseAsTold([]byte(s)); !same(again, want) {
			t.Fatal("one answer lies in another one")
		}
	}
}
