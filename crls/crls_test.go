package crls_test

import (
	"bytes"
	"fmt"
	"math"
	"slices"
	"strings"
	"testing"

	"warder/api"
	"warder/crls"
	"warder/names"
	"warder/nodes"
	"warder/texts"
)

// drawn tells numbers that look drawn, and are the same each time.
func drawn() func(below int) int {
	state := uint64(1)
	return func(below int) int {
		state = state*6364136223846793005 + 1442695040888963407
		return int(state>>33) % below
	}
}

// der are a value's bytes, written without the program's help.
func der(tag byte, parts ...string) string {
	body := strings.Join(parts, "")
	head := []byte{tag}
	switch n := len(body); {
	case n < 0x80:
		head = append(head, byte(n))
	case n < 0x100:
		head = append(head, 0x81, byte(n))
	default:
		head = append(head, 0x82, byte(n>>8), byte(n))
	}
	return string(head) + body
}

// number are a number's bytes from 0 on, as few as there may be, the highest first.
func number(n int64) string {
	out := string([]byte{byte(n)})
	for ; n > 0x7f; n = n >> 8 {
		out = string([]byte{byte(n >> 8)}) + out
	}
	return der(0x02, out)
}

// numbers are the bytes of a sequence of some.
func numbers(list ...int64) string {
	var parts []string
	for _, n := range list {
		parts = append(parts, number(n))
	}
	return der(0x30, parts...)
}

// mention is how a handle stands in bytes.
func mention(n int64) string {
	b := []byte{0x04, 0x08, 0xc1, 0x5e}
	for shift := 40; shift >= 0; shift -= 8 {
		b = append(b, byte(n>>shift))
	}
	return string(b)
}

// cn is a name of one part, cnBytes are its node's.
func cn(text string) api.Name { return api.Name{{Oid: []int{2, 5, 4, 3}, Text: text}} }

func cnBytes(text string) string {
	return der(0x30, der(0x30, der(0x06, "\x55\x04\x03"), der(0x0c, text)))
}

// upTo are so many serials that rise, from a first one on.
func upTo(count int, first, step int64) []int64 {
	var list []int64
	for i := range int64(count) {
		list = append(list, first+i*step)
	}
	return list
}

// short is how something is told where it is wrong.
func short(x any) string {
	s := fmt.Sprintf("%+v", x)
	return s[:min(len(s), 300)]
}

// one: are two lists one, be their empty parts nil or not?
func one(a, b api.CRL) bool {
	return slices.EqualFunc(a.Issuer, b.Issuer, func(x, y api.Attr) bool { return slices.Equal(x.Oid, y.Oid) && x.Text == y.Text }) &&
		a.This == b.This && a.Next == b.Next && slices.Equal(a.Serials, b.Serials) && a.Sig == b.Sig
}

// Names at the edges.
var (
	word    = strings.Repeat("x", 64)
	longOID = append([]int{2}, slices.Repeat([]int{1<<28 - 81}, 15)...) // of 60 bytes, as many as there may be
	longDN  = slices.Repeat(api.Name{{Oid: longOID, Text: word}}, 8)
)

func wrongNames() []api.Name {
	return []api.Name{{{}}, {{Text: "a"}}, cn(word + "x"), cn("\xff"), cn("a\xc3"), slices.Repeat(cn("a"), 9), append(cn("a"), api.Attr{Oid: []int{3, 1}}), {{Oid: []int{2}, Text: "a"}}, make(api.Name, 9), slices.Repeat(cn("a"), 1000)}
}

func isTime(sec int64) bool { return sec >= -631152000 && sec <= 253402300799 }

func isHandle(n int) bool { return n >= 0 && int64(n) < 1<<48 }

func serialsMay(list []int64) bool {
	for i, n := range list {
		if n < 0 || n > 4611686018427387904 || i > 0 && n <= list[i-1] {
			return false
		}
	}
	return len(list) <= 256
}

func clock(sec int64) string {
	tag, body, _ := texts.PutTime(sec)
	return der(tag, string(body))
}

// asTold are a right list's body and its bytes, by the section Types.
func asTold(c api.CRL) (string, string, api.Errno) {
	issuer, e := names.Put(c.Issuer)
	if e != api.OK || !isTime(c.This) || !isTime(c.Next) || !serialsMay(c.Serials) || !isHandle(c.Sig) {
		return "", "", api.ErrCRL
	}
	who, _ := nodes.Print(issuer)
	body := der(0x30, string(who), clock(c.This), clock(c.Next), numbers(c.Serials...))
	return body, der(0x30, body, mention(int64(c.Sig))), api.OK
}

// reader reads the parts of a list; it is wrong once one of them is.
type reader struct{ wrong bool }

func (r *reader) need(ok bool) { r.wrong = r.wrong || !ok }

// leaf is the body of a node that has a tag, and no kids.
func (r *reader) leaf(n api.Node, tag byte) []byte {
	r.need(n.Tag == tag && len(n.Kids) == 0)
	return n.Body
}

// kids are those of a sequence of so many.
func (r *reader) kids(n api.Node, count int) []api.Node {
	r.need(n.Tag == 0x30 && len(n.Body) == 0 && len(n.Kids) == count)
	return append(slices.Clone(n.Kids), make([]api.Node, count)...)
}

func (r *reader) handle(n api.Node) int {
	b := r.leaf(n, 0x04)
	if len(b) != 8 || b[0] != 0xc1 || b[1] != 0x5e {
		r.need(false)
		return 0
	}
	h := 0
	for _, x := range b[2:] {
		h = h*256 + int(x)
	}
	return h
}

func (r *reader) serial(n api.Node) int64 {
	b := r.leaf(n, 0x02)
	if len(b) < 1 || len(b) > 8 || b[0] > 0x7f || len(b) > 1 && b[0] == 0 && b[1] < 0x80 {
		r.need(false)
		return 0
	}
	s := int64(0)
	for _, x := range b {
		s = s*256 + int64(x)
	}
	return s
}

func (r *reader) time(n api.Node) int64 {
	r.need(len(n.Kids) == 0)
	sec, e := texts.Time(n.Tag, n.Body)
	r.need(e == api.OK)
	return sec
}

// ofBytes is the right list whose node's bytes these are, part by part.
func ofBytes(b string) (api.CRL, api.Errno) {
	n, _, e := nodes.Parse([]byte(b))
	if e != api.OK {
		return api.CRL{}, e
	}
	var r reader
	parts := r.kids(n, 2)
	body := r.kids(parts[0], 4)
	issuer, e := names.Get(body[0])
	r.need(e == api.OK)
	c := api.CRL{Issuer: issuer, This: r.time(body[1]), Next: r.time(body[2]), Sig: r.handle(parts[1])}
	for _, kid := range r.kids(body[3], len(body[3].Kids))[:len(body[3].Kids)] {
		c.Serials = append(c.Serials, r.serial(kid))
	}
	if r.wrong || !serialsMay(c.Serials) {
		return api.CRL{}, api.ErrCRL
	}
	return c, api.OK
}

// holdList: its bytes and its body are as told, and are read as it was. It tells whether it is right.
func holdList(t *testing.T, c api.CRL) bool {
	t.Helper()
	body, whole, wrong := asTold(c)
	if got, e := crls.Body(c); e != wrong || string(got) != body {
		t.Fatalf("%s: body %.300x %v, not %.300x %v", short(c), got, e, body, wrong)
	}
	got, e := crls.Put(c)
	if e != wrong || string(got) != whole {
		t.Fatalf("%s: put %.300x %v, not %.300x %v", short(c), got, e, whole, wrong)
	}
	if e != api.OK {
		return false
	}
	if again, e := crls.Get(got); e != api.OK || !one(again, c) {
		t.Fatalf("%s: put %.300x, and got %s %v", short(c), got, short(again), e)
	}
	return true
}

// holdBytes: they are read as told, and put as they stood. It tells whether they are a list's.
func holdBytes(t *testing.T, b string) bool {
	t.Helper()
	got, e := crls.Get([]byte(b))
	want, wrong := ofBytes(b)
	if e != wrong || !one(got, want) {
		t.Fatalf("%.400x: got %s %v, not %s %v", b, short(got), e, short(want), wrong)
	}
	if e != api.OK {
		return false
	}
	if again, f := crls.Put(got); f != api.OK || string(again) != b {
		t.Fatalf("%.400x: got %s, and put %.400x %v", b, short(got), again, f)
	}
	return true
}

// refused: what is no right list has neither bytes nor a body.
func refused(t *testing.T, c api.CRL) {
	t.Helper()
	if got, e := crls.Put(c); e != api.ErrCRL || len(got) != 0 {
		t.Errorf("%s: put %.200x %v", short(c), got, e)
	}
	if got, e := crls.Body(c); e != api.ErrCRL || len(got) != 0 {
		t.Errorf("%s: body %.200x %v", short(c), got, e)
	}
	holdList(t, c)
}

// nothing: of these bytes there is no list, by this error.
func nothing(t *testing.T, b string, want api.Errno) {
	t.Helper()
	if got, e := crls.Get([]byte(b)); e != want || !one(got, api.CRL{}) {
		t.Errorf("%.400x: got %s %v, not %v", b, short(got), e, want)
	}
	holdBytes(t, b)
}

// all is a list that has each, bare one that takes nothing back; allBytes and bareCRL are theirs.
func all() api.CRL {
	return api.CRL{Issuer: append(cn("Root"), cn("R")...), This: 0, Next: 2524608000, Serials: []int64{0, 2, 300, 1 << 62}, Sig: 258}
}

func bare() api.CRL { return api.CRL{} }

const (
	utc      = "\x17\x0d700101000000Z"
	general  = "\x18\x0f20500101000000Z"
	handle0  = "\x04\x08\xc1\x5e\x00\x00\x00\x00\x00\x00"
	bareBody = "\x30\x22\x30\x00" + utc + utc + "\x30\x00"
	bareCRL  = "\x30\x2e" + bareBody + handle0
	allSig   = "\x04\x08\xc1\x5e\x00\x00\x00\x00\x01\x02"
)

var (
	allIssuer  = der(0x30, der(0x30, "\x06\x03\x55\x04\x03", "\x0c\x04Root"), der(0x30, "\x06\x03\x55\x04\x03", "\x0c\x01R"))
	allSerials = "\x30\x14\x02\x01\x00\x02\x01\x02\x02\x02\x01\x2c\x02\x08\x40\x00\x00\x00\x00\x00\x00\x00"
	allParts   = []string{allIssuer, utc, general, allSerials}
	allBytes   = der(0x30, der(0x30, allParts...), allSig)
)

// with are the bytes of all, a part of its body another one.
func with(at int, part string) string {
	parts := slices.Clone(allParts)
	parts[at] = part
	return der(0x30, der(0x30, parts...), allSig)
}

// P12.1, P12.2, L1: lists, their bodies and their bytes.
func TestListsAndTheirBytes(t *testing.T) {
	for _, c := range []struct {
		list       api.CRL
		body, node string
	}{
		{bare(), bareBody, bareCRL},
		{all(), der(0x30, allParts...), allBytes},
		{api.CRL{Issuer: api.Name{}, Serials: []int64{}}, bareBody, bareCRL},
		{api.CRL{Sig: 258}, bareBody, "\x30\x2e" + bareBody + allSig},
		{
			api.CRL{Issuer: cn("A"), This: 2524608000, Next: -1, Serials: []int64{127, 128}, Sig: 1<<48 - 1},
			"\x30\x35\x30\x0a\x30\x08\x06\x03\x55\x04\x03\x0c\x01\x41" + general + "\x17\x0d691231235959Z\x30\x07\x02\x01\x7f\x02\x02\x00\x80",
			"\x30\x41\x30\x35\x30\x0a\x30\x08\x06\x03\x55\x04\x03\x0c\x01\x41" + general + "\x17\x0d691231235959Z\x30\x07\x02\x01\x7f\x02\x02\x00\x80\x04\x08\xc1\x5e\xff\xff\xff\xff\xff\xff",
		},
	} {
		if got, e := crls.Body(c.list); e != api.OK || string(got) != c.body {
			t.Errorf("%s: body %x %v, not %x", short(c.list), got, e, c.body)
		}
		if got, e := crls.Put(c.list); e != api.OK || string(got) != c.node {
			t.Errorf("%s: put %x %v, not %x", short(c.list), got, e, c.node)
		}
		if got, e := crls.Get([]byte(c.node)); e != api.OK || !one(got, c.list) {
			t.Errorf("%x: got %s %v, not %s", c.node, short(got), e, short(c.list))
		}
		if !holdList(t, c.list) || !holdBytes(t, c.node) {
			t.Errorf("%s is not right", short(c.list))
		}
		nothing(t, c.body, api.ErrCRL)
	}
}

// edges are serials at all edges.
func edges() []int64 {
	list := []int64{math.MinInt64, math.MinInt64 + 1, math.MaxInt64, 1<<62 + 1, 1 << 62, 1<<62 - 1, -1, 0, 1, 2}
	for shift := range 62 {
		list = append(list, 1<<shift-1, 1<<shift, 1<<shift+1, -1<<shift)
	}
	return list
}

// P12.1, P2: each serial at the edges alone, and each behind each other one.
func TestSerials(t *testing.T) {
	right := func(n int64) bool { return n >= 0 && n <= 1<<62 }
	for n := int64(-300); n <= 300; n++ {
		if holdList(t, api.CRL{Serials: []int64{n}}) != right(n) {
			t.Error(n)
		}
	}
	for _, first := range edges() {
		c := all()
		if c.Serials = []int64{first}; holdList(t, c) != right(first) {
			t.Error(first)
		}
		for _, second := range edges() {
			if c.Serials = []int64{first, second}; holdList(t, c) != (right(first) && right(second) && first < second) {
				t.Error(first, second)
			}
		}
	}
	for _, serials := range []string{
		"\x30\x03\x02\x01\xff", "\x30\x03\x02\x01\x80", "\x30\x04\x02\x02\xff\x7f", "\x30\x0a\x02\x08\x80\x00\x00\x00\x00\x00\x00\x00", "\x30\x0a\x02\x08\x40\x00\x00\x00\x00\x00\x00\x01", "\x30\x0a\x02\x08\x7f\xff\xff\xff\xff\xff\xff\xff",
		numbers(3, 3), numbers(0, 0), numbers(2, 1), numbers(300, 2), numbers(2, 300, 300), numbers(2, 300, 299), numbers(2, 1, 300), "\x30\x06\x02\x01\xff\x02\x01\x05", "\x30\x06\x02\x01\x05\x02\x01\xff",
		"\x31\x00", "\xa0\x00", "\x05\x00", "\x04\x00", "\x31" + allSerials[1:], "\xa0" + allSerials[1:], "\x04" + allSerials[1:], number(2), der(0x30, allSerials), der(0x30, numbers(2), numbers(3)),
		"\x30\x03\x01\x01\xff", "\x30\x03\x04\x01\x05", "\x30\x03\x82\x01\x05", "\x30\x02\x05\x00", "\x30\x02\x04\x00", "\x30\x02\x30\x00", "\x30\x05\x02\x01\x05\x05\x00", "\x30\x05\x05\x00\x02\x01\x05", der(0x30, number(1), der(0x30, number(2)), number(3)),
	} {
		nothing(t, with(3, serials), api.ErrCRL)
	}
	for _, serials := range []string{"\x30\x00", "\x30\x03\x02\x01\x00", "\x30\x03\x02\x01\x7f", "\x30\x0a\x02\x08\x40\x00\x00\x00\x00\x00\x00\x00", "\x30\x0a\x02\x08\x3f\xff\xff\xff\xff\xff\xff\xff", numbers(0, 1, 2, 3), numbers(255, 256)} {
		if !holdBytes(t, with(3, serials)) {
			t.Errorf("%x", serials)
		}
	}
}

// P12.1, P2: up to 256 serials, and one that is wrong at each place among them.
func TestManySerials(t *testing.T) {
	for n := range 300 {
		c := all()
		for _, list := range [][]int64{upTo(n, 0, 1), upTo(n, 1<<62-int64(n)+1, 1), upTo(n, 7, 1<<53)} {
			if c.Serials = list; holdList(t, c) != (n <= 256) {
				t.Error(n)
			}
			if holdBytes(t, with(3, numbers(list...))) != (n <= 256) {
				t.Error(n)
			}
		}
	}
	for at := range 256 {
		right := upTo(256, 10, 10)
		for _, n := range []int64{right[at] - 10, right[at] + 10, -1, math.MinInt64, 1<<62 + 1, math.MaxInt64, right[max(at-1, 0)], right[at] + 9, right[at] - 9} {
			c := all()
			c.Serials = slices.Clone(right)
			c.Serials[at] = n
			may := n >= 0 && n <= 1<<62 && (at == 0 || n > right[at-1]) && (at == 255 || n < right[at+1])
			if holdList(t, c) != may {
				t.Error(at, n)
			}
			if n >= 0 && holdBytes(t, with(3, numbers(c.Serials...))) != may {
				t.Error(at, n)
			}
		}
	}
	for _, n := range []int{257, 258, 1000, 20000} {
		c := all()
		c.Serials = upTo(n, 0, 1)
		refused(t, c)
		nothing(t, with(3, numbers(c.Serials[:min(n, 15000)]...)), api.ErrCRL)
	}
}

// P12.1, P2: This and Next at each edge, each with each: the later one may stand first.
func TestTimes(t *testing.T) {
	list := []int64{math.MinInt64, api.MinTime - 1, api.MinTime, api.MinTime + 1, -1, 0, 1, 946684799, 946684800, 2524607999, 2524608000, 2524608001, 3000000000, api.MaxTime - 1, api.MaxTime, api.MaxTime + 1, math.MaxInt64}
	for _, this := range list {
		for _, next := range list {
			for _, c := range []api.CRL{bare(), all()} {
				if c.This, c.Next = this, next; holdList(t, c) != (isTime(this) && isTime(next)) {
					t.Error(this, next)
				}
			}
		}
	}
	for at := 1; at <= 2; at++ {
		for _, sec := range []string{"\x05\x00", "\x30\x00", "\x0c\x0d700101000000Z", "\x97\x0d700101000000Z", "\x98\x0f20500101000000Z", "\x04\x0d700101000000Z", der(0x30, utc), der(0x30, utc, general), number(5), allIssuer, "\xb7\x00"} {
			nothing(t, with(at, sec), api.ErrCRL)
		}
		for _, sec := range []string{"\x17\x0f20500101000000Z", "\x18\x0d700101000000Z", "\x18\x0f20490101000000Z", "\x17\x0d701301000000Z", "\x17\x0d7001010000000", "\x17\x00"} { // no right nodes
			nothing(t, with(at, sec), api.ErrValue)
		}
		for _, sec := range []int64{api.MinTime, 0, 2524607999, 2524608000, api.MaxTime} {
			if !holdBytes(t, with(at, clock(sec))) {
				t.Error(at, sec)
			}
		}
	}
}

// P12.1, P2: Sig at each edge; it must be right for a body too, though it is not in it.
func TestSig(t *testing.T) {
	for _, sig := range []int{math.MinInt, math.MinInt32, -2, -1, 0, 1, 255, 256, 1<<32 - 1, 1 << 32, 1<<40 - 1, 1<<48 - 1, 1 << 48, 1<<48 + 1, 1 << 56, math.MaxInt} {
		for _, c := range []api.CRL{bare(), all()} {
			without, _ := crls.Body(c)
			if c.Sig = sig; holdList(t, c) != isHandle(sig) {
				t.Error(sig)
			}
			if got, e := crls.Body(c); e == api.OK && !bytes.Equal(got, without) {
				t.Error("Sig is in a body", sig)
			}
		}
	}
	for _, h := range []string{
		"\x04\x00", "\x04\x07\xc1\x5e\x00\x00\x00\x00\x01", "\x04\x09\xc1\x5e\x00\x00\x00\x00\x01\x02\x03", "\x04\x08\xc2\x5e\x00\x00\x00\x00\x01\x02", "\x04\x08\xc1\x5f\x00\x00\x00\x00\x01\x02", "\x04\x08\x5e\xc1\x00\x00\x00\x00\x01\x02", "\x04\x08\x00\x00\x00\x00\x00\x00\x01\x02",
		"\x84\x08\xc1\x5e\x00\x00\x00\x00\x01\x02", "\x80\x08\xc1\x5e\x00\x00\x00\x00\x01\x02", "\x02\x02\x01\x02", "\x05\x00", "\x30\x00", "\x03\x09\x00\xc1\x5e\x00\x00\x00\x00\x01\x02", der(0x30, mention(1)), "\x04\x0a" + mention(1),
	} {
		nothing(t, der(0x30, der(0x30, allParts...), h), api.ErrCRL)
		nothing(t, der(0x30, bareBody, h), api.ErrCRL)
	}
}

// P12.1, P2: right and wrong names.
func TestIssuers(t *testing.T) {
	for _, n := range []api.Name{nil, {}, cn(""), cn("Ann"), cn(" Ann"), cn(word), longDN, slices.Repeat(cn("a"), 8), cn("é\U0001f600")} {
		for _, c := range []api.CRL{bare(), all()} {
			if c.Issuer = n; !holdList(t, c) {
				t.Error(short(n))
			}
		}
	}
	for _, n := range wrongNames() {
		for _, c := range []api.CRL{bare(), all()} {
			c.Issuer = n
			refused(t, c)
		}
	}
	for _, n := range []string{
		"\x31\x00", "\x05\x00", "\x0c\x03Ann", "\xa0\x00", der(0x30, cnBytes("Ann")), der(0x30, der(0x30, "\x06\x03\x55\x04\x03", "\x0c\x03Ann", "\x05\x00")), der(0x30, der(0x30, "\x06\x03\x55\x04\x03", "\x13\x03Ann")),
		cnBytes(word + "x"), der(0x30, strings.Repeat(cnBytes("a")[2:], 9)), der(0x31, cnBytes("a")[2:]), "\x30\x02\x30\x00", allSerials,
	} {
		nothing(t, with(0, n), api.ErrCRL)
	}
}

// P12.1, P2: each field wrong, alone and with each other one, has one error; nothing comes out beside it.
func TestWrongFields(t *testing.T) {
	spoils := []func(c *api.CRL){
		func(c *api.CRL) { c.Issuer = cn("\xff") }, func(c *api.CRL) { c.Issuer = make(api.Name, 1) }, func(c *api.CRL) { c.This = api.MaxTime + 1 }, func(c *api.CRL) { c.This = api.MinTime - 1 }, func(c *api.CRL) { c.Next = api.MinTime - 1 }, func(c *api.CRL) { c.Next = api.MaxTime + 1 },
		func(c *api.CRL) { c.Serials = []int64{3, 3} }, func(c *api.CRL) { c.Serials = []int64{-1} }, func(c *api.CRL) { c.Serials = []int64{1<<62 + 1} }, func(c *api.CRL) { c.Serials = upTo(257, 0, 1) }, func(c *api.CRL) { c.Sig = 1 << 48 }, func(c *api.CRL) { c.Sig = -1 },
	}
	for _, first := range spoils {
		for _, second := range spoils {
			for _, c := range []api.CRL{bare(), all()} {
				first(&c)
				refused(t, c)
				second(&c)
				refused(t, c)
			}
		}
	}
	if !holdList(t, all()) {
		t.Error("what is right is refused")
	}
}

// P12.1, P2, L1: of bytes that are no node, the error is that of nodes.Parse, whatever they begin with.
func TestErrorsOfParse(t *testing.T) {
	for at := range len(allBytes) {
		if _, e := crls.Get([]byte(allBytes[:at])); e != api.ErrEnd {
			t.Error(at, e)
		}
		holdBytes(t, allBytes[:at])
		holdBytes(t, allBytes[at:])
	}
	deep := ""
	for range 33 {
		deep = der(0x30, deep)
	}
	for _, c := range []struct {
		b string
		e api.Errno
	}{
		{"", api.ErrEnd},
		{"\x1f\x00", api.ErrTag},
		{with(3, "\x30\x02\x1f\x00"), api.ErrTag},
		{"\x30\x80", api.ErrLength},
		{"\x30\x81\x2e" + bareCRL[2:], api.ErrLength},
		{bareCRL + "\x00", api.ErrRest},
		{bareCRL + bareCRL, api.ErrRest},
		{allBytes + "\x05\x00", api.ErrRest},
		{"\x30\x00\x00", api.ErrRest},
		{deep, api.ErrDeep},
		{with(0, deep), api.ErrDeep},
		{with(3, deep), api.ErrDeep},
		{with(3, der(0x31, "\x02\x01\x05", "\x02\x01\x04")), api.ErrOrder},
		{der(0x31, bareBody, handle0), api.ErrOrder},
		{der(0x30, "\x31"+bareBody[1:], handle0), api.ErrOrder},
		{with(3, "\x30\x04\x02\x02\x00\x05"), api.ErrValue},
		{with(3, "\x30\x02\x02\x00"), api.ErrValue},
		{with(3, der(0x30, "\x02\x09\x00\x80\x00\x00\x00\x00\x00\x00\x00")), api.ErrValue},
		{with(3, "\x30\x03\x0a\x01\x05"), api.ErrValue},
		{with(0, cnBytes("\xff")), api.ErrValue},
		{with(0, cnBytes("\xff")) + "\x00", api.ErrValue},
		{with(3, numbers(3, 3)) + "\x00", api.ErrRest},
		{"\x30\x00", api.ErrCRL},
		{"\x05\x00", api.ErrCRL},
	} {
		nothing(t, c.b, c.e)
	}
}

// leaf and over are nodes.
func leaf(tag byte, body string) api.Node { return api.Node{Tag: tag, Body: []byte(body)} }

func over(tag byte, kids ...api.Node) api.Node { return api.Node{Tag: tag, Kids: kids} }

// near are nodes near one, that differ from it at one place, wherever it is.
func near(n api.Node) []api.Node {
	var out []api.Node
	for _, tag := range []byte{0x01, 0x02, 0x03, 0x04, 0x05, 0x06, 0x0c, 0x13, 0x16, 0x17, 0x18, 0x1b, 0x30, 0x31, 0x80, 0xa0, 0xa1, 0xb0} {
		if tag != n.Tag {
			out = append(out, api.Node{Tag: tag, Body: n.Body, Kids: n.Kids})
		}
	}
	for _, body := range [][]byte{append(bytes.Clone(n.Body), 0), append([]byte{0}, n.Body...), nil, {0}, {0x7f}, {0xff}, n.Body[:max(len(n.Body)-1, 0)], n.Body[min(len(n.Body), 1):]} {
		out = append(out, api.Node{Tag: n.Tag, Body: body, Kids: n.Kids})
	}
	kids := func(kids []api.Node) { out = append(out, api.Node{Tag: n.Tag, Body: n.Body, Kids: kids}) }
	for at := range len(n.Kids) + 1 {
		for _, kid := range []api.Node{over(0x30), over(0x31), over(0xa0), leaf(0x02, "\x01"), leaf(0x02, "\x05"), leaf(0x02, "\x02\x00"), leaf(0x04, handle0[2:]), leaf(0x05, ""), leaf(0x17, "700101000000Z")} {
			kids(slices.Insert(slices.Clone(n.Kids), at, kid))
		}
		if at == len(n.Kids) {
			break
		}
		kids(slices.Delete(slices.Clone(n.Kids), at, at+1))
		kids(slices.Insert(slices.Clone(n.Kids), at, n.Kids[at]))
		kids(n.Kids[at:])
		kids(n.Kids[:at])
		for other := range at {
			swapped := slices.Clone(n.Kids)
			swapped[at], swapped[other] = swapped[other], swapped[at]
			kids(swapped)
		}
		for _, kid := range near(n.Kids[at]) {
			replaced := slices.Clone(n.Kids)
			replaced[at] = kid
			kids(replaced)
		}
	}
	return out
}

// P12.1, P12.2: bytes of nodes near a list's, and of nodes that are nothing of the kind.
func TestNodesNearLists(t *testing.T) {
	right, count := 0, 0
	for _, b := range []string{allBytes, bareCRL} {
		n, _, e := nodes.Parse([]byte(b))
		if e != api.OK {
			t.Fatal(e)
		}
		for _, other := range near(n) {
			changed, e := nodes.Print(other)
			if e != api.OK {
				continue
			}
			count++
			if holdBytes(t, string(changed)) {
				right++
			}
		}
	}
	if right < 20 || right > count/2 || count < 500 {
		t.Error(right, count)
	}
	for _, b := range []string{
		"\x30\x00", "\x31\x00", "\x05\x00", "\x04\x00", "\xa0\x00", mention(1), der(0x04, bareCRL), der(0x30, bareCRL), der(0x30, bareBody), der(0x30, handle0), der(0x30, bareBody, bareBody), der(0x30, handle0, bareBody), der(0x30, bareBody, handle0, handle0), der(0x30, bareBody, handle0, "\x05\x00"),
		der(0x31, handle0, bareBody), der(0xa0, bareBody, handle0), der(0x30, der(0x04, bareBody), handle0), der(0x30, "\xb0"+bareBody[1:], handle0), der(0x30, bareBody+"\x05\x00", handle0), der(0x30, der(0x30, slices.Repeat([]string{"\x30\x00"}, 4)...), handle0),
	} {
		nothing(t, b, api.ErrCRL)
	}
	for n := range 7 {
		parts := append(slices.Clone(allParts), "\x30\x00", allSig)[:n]
		if holdBytes(t, der(0x30, der(0x30, parts...), allSig)) != (n == 4) {
			t.Error(n, "parts")
		}
	}
}

// P12.1, P12.2: each byte changed to each other one, left out, and put in.
func TestEachByteChanged(t *testing.T) {
	right := 0
	for _, b := range []string{allBytes, bareCRL} {
		for at := range len(b) {
			for x := range 0x100 {
				s := string([]byte{byte(x)})
				if holdBytes(t, b[:at]+s+b[at+1:]) {
					right++
				}
				holdBytes(t, b[:at]+s+b[at:])
			}
			holdBytes(t, b[:at]+b[at+1:])
		}
	}
	if right < 1000 {
		t.Error(right)
	}
}

// P12.1: the greatest list of all fits into a value.
func TestGreatestList(t *testing.T) {
	c := api.CRL{Issuer: longDN, This: api.MaxTime, Next: api.MaxTime, Serials: upTo(256, 1<<62-255, 1), Sig: 1<<48 - 1}
	b, e := crls.Put(c)
	if e != api.OK || len(b) < 3600 || len(b) > api.MaxBody || !holdList(t, c) || !holdBytes(t, string(b)) {
		t.Error(len(b), e)
	}
}

// P12.1: lists that are not alike but for Sig have unlike bodies, and all that are not alike have unlike bytes.
func TestUnlikeLists(t *testing.T) {
	bodies, bytesOf := map[string]int{}, map[string]int{}
	count := 0
	for i, issuer := range []api.Name{nil, cn(""), cn("Ann"), cn("ann"), append(cn("Ann"), cn("Ann")...)} {
		for _, this := range []int64{0, 1, 3000000000} {
			for _, next := range []int64{0, 1, 3000000000} {
				for _, serials := range [][]int64{nil, {0}, {1}, {0, 1}, {1, 2}, {258}, {1, 258}, {1 << 32}} {
					for _, sig := range []int{0, 1, 1<<48 - 1} {
						c := api.CRL{Issuer: issuer, This: this, Next: next, Serials: serials, Sig: sig}
						body, e := crls.Body(c)
						b, f := crls.Put(c)
						if e != api.OK || f != api.OK || !holdList(t, c) {
							t.Fatal(i, short(c), e, f)
						}
						bodies[string(body)]++
						bytesOf[string(b)]++
						count++
					}
				}
			}
		}
	}
	if len(bytesOf) != count || len(bodies)*3 != count {
		t.Error(len(bytesOf), len(bodies), count)
	}
}

// P12.1, L2: the chapter's example, and what is about it.
func TestListed(t *testing.T) {
	c := api.CRL{This: 5, Next: 9, Serials: []int64{2}}
	for _, x := range []struct {
		serial, now int64
		want        bool
	}{{2, 9, true}, {2, 10, false}, {2, 5, true}, {2, 4, false}, {2, 7, true}, {1, 7, false}, {3, 7, false}, {0, 7, false}, {-2, 7, false}, {2, math.MinInt64, false}, {2, math.MaxInt64, false}, {2 + 1<<32, 7, false}, {2, 7 + 1<<32, false}, {2, -7, false}} {
		if got := crls.Lists(c, x.serial, x.now); got != x.want {
			t.Error(x, got)
		}
	}
	for _, none := range []api.CRL{{}, {This: 5, Next: 9}, {This: 5, Next: 9, Serials: []int64{}}} {
		for n := int64(-10); n <= 10; n++ {
			if crls.Lists(none, 0, n) || crls.Lists(none, n, 7) {
				t.Error("nothing was taken back", n)
			}
		}
	}
}

// P12.1, L2: times at all edges, three at once: those of lists that are not right too, and such as stand the later one first.
func TestListedAtTimes(t *testing.T) {
	list := []int64{math.MinInt64, math.MinInt64 + 1, api.MinTime - 1, api.MinTime, -1, 0, 1, 4, 5, 6, 9, 10, 1 << 32, api.MaxTime, api.MaxTime + 1, math.MaxInt64 - 1, math.MaxInt64}
	for _, this := range list {
		for _, next := range list {
			for _, now := range list {
				c := api.CRL{Issuer: cn("R"), This: this, Next: next, Serials: []int64{2, 7}, Sig: 1}
				in := !(now < this) && !(now > next)
				if crls.Lists(c, 2, now) != in || crls.Lists(c, 7, now) != in || crls.Lists(c, 3, now) {
					t.Error(this, next, now)
				}
			}
		}
	}
}

// P12.1, L2: serials in any order, more than once, too many, and such as none may be; each other part wrong.
func TestListedOfAnyLists(t *testing.T) {
	holds := func(c api.CRL, serial int64) {
		t.Helper()
		in := false
		for _, n := range c.Serials {
			in = in || n == serial
		}
		if crls.Lists(c, serial, 7) != in || crls.Lists(c, serial, 4) || crls.Lists(c, serial, 10) {
			t.Error(short(c), serial)
		}
	}
	asked := append(edges(), 3, 4, 5, 6, 255, 256, 257, 299, 300, 301, 2999, 3000)
	falling := upTo(300, 0, 1)
	slices.Reverse(falling)
	for _, serials := range [][]int64{
		nil, {}, {2}, {2, 300}, {300, 2}, {5, 1, 3}, {3, 1, 5}, {3, 3}, {1, 3, 3, 0}, {-1}, {math.MinInt64, 2, math.MaxInt64}, {math.MaxInt64, 2, math.MinInt64}, {1<<62 + 1}, edges(), upTo(256, 0, 1), upTo(257, 0, 1), upTo(3000, 1, 1), upTo(256, 0, 2), falling,
	} {
		for _, c := range []api.CRL{{}, {Issuer: cn("\xff")}, {Sig: -1}, {Issuer: make(api.Name, 9), Sig: 1 << 60}, {Issuer: cn("R"), Sig: 1}} {
			c.This, c.Next, c.Serials = 5, 9, serials
			for _, serial := range asked {
				holds(c, serial)
			}
		}
	}
}

// P12.1, L2: drawn short lists, in any order.
func TestListedDrawn(t *testing.T) {
	next := drawn()
	yes := 0
	for range 50000 {
		c := api.CRL{This: int64(next(6)), Next: int64(next(6))}
		for range next(6) {
			c.Serials = append(c.Serials, int64(next(8)-1))
		}
		serial, now := int64(next(8)-1), int64(next(6))
		want := false
		for _, n := range c.Serials {
			want = want || n == serial
		}
		want = want && now >= c.This && now <= c.Next
		if crls.Lists(c, serial, now) != want {
			t.Fatal(c, serial, now)
		}
		if want {
			yes++
		}
	}
	if yes < 1000 {
		t.Error(yes)
	}
}

func drawName(next func(int) int) api.Name {
	var n api.Name
	for range next(1 + next(9)) {
		text := strings.Repeat(string([]byte{byte(0x20 + next(0x5f))}), next(1+next(64)))
		n = append(n, api.Attr{Oid: []int{2, 5, 4, next(300)}, Text: text + []string{"", "é", "\U0001f600"}[next(3)]})
	}
	if len(n) > 0 && next(30) == 0 {
		n[0].Text = "\xff"
	}
	return n
}

// drawList is a list, right but for now and then a part.
func drawList(next func(int) int) api.CRL {
	wide := func(bits int) int64 {
		return int64((uint64(next(1<<30))<<34 | uint64(next(1<<30))<<4) >> (64 - bits) >> next(bits))
	}
	c := api.CRL{Issuer: drawName(next), This: wide(39), Next: wide(39), Sig: int(wide(49))}
	for range next(1 + next(270)) {
		c.Serials = append(c.Serials, wide(63))
	}
	slices.Sort(c.Serials)
	if next(20) > 0 {
		c.Serials = slices.Compact(c.Serials)
	}
	return c
}

// P12.2, P12.1: drawn lists there and back, with bytes of theirs changed; of what is right each serial is listed.
func TestThereAndBack(t *testing.T) {
	next := drawn()
	right, spoilt := 0, 0
	for range 1000 {
		c := drawList(next)
		if !holdList(t, c) {
			continue
		}
		right++
		b, _ := crls.Put(c)
		got, _ := crls.Get(b)
		for _, serial := range c.Serials {
			if crls.Lists(got, serial, got.This) != (c.This <= c.Next) {
				t.Fatal(short(c), serial)
			}
		}
		for range 20 {
			b[next(len(b))] ^= 1 << next(8)
			if !holdBytes(t, string(b)) {
				b, _ = crls.Put(c)
				continue
			}
			spoilt++
		}
	}
	if right < 300 || right == 1000 || spoilt < 300 {
		t.Error("too few right ones, or no wrong ones", right, spoilt)
	}
}

// P1: very long, wide and deep bytes; lists of very many and very long parts.
func TestCallsEnd(t *testing.T) {
	long := strings.Repeat("\x30", 1<<24)
	deep := ""
	for range 28 {
		deep = der(0x30, deep)
	}
	wide := strings.Repeat("\x30\x00", 1<<14)
	for _, b := range []string{
		long, strings.Repeat("\x30\x00", 1<<20), allBytes + long, deep, der(0x30, wide), der(0x30, der(0x30, wide), handle0), with(0, der(0x30, wide)), with(1, der(0x30, wide)), with(2, der(0x30, wide)), with(3, der(0x30, wide)), with(3, der(0x04, wide)), with(3, der(0x30, strings.Repeat("\x02\x01\x05", 1<<14))), with(3, der(0x30, strings.Repeat("\x05\x00", 1<<14))),
		with(0, deep), with(1, deep), with(3, deep), der(0x30, der(0x30, allParts...), der(0x04, strings.Repeat("\xc1\x5e", 1<<14))), string(make([]byte, 1<<24)), strings.Repeat("\xff", 1<<20), der(0x30, der(0x30), handle0), der(0x30, der(0x30, "\x30\x00", "\x30\x00"), handle0),
	} {
		holdBytes(t, b)
		if got, e := crls.Get([]byte(b)); e == api.OK || !one(got, api.CRL{}) {
			t.Errorf("%.100x: %s %v", b, short(got), e)
		}
	}
	if got, e := crls.Get(nil); e != api.ErrEnd || !one(got, api.CRL{}) {
		t.Error(short(got), e)
	}
	arcs, many := slices.Repeat([]int{1}, 1<<20), slices.Repeat(cn("a"), 1<<20)
	for _, c := range []api.CRL{{Issuer: many}, {Issuer: cn(long)}, {Issuer: api.Name{{Oid: arcs}}}, {Serials: make([]int64, 1<<22)}, {Serials: upTo(1<<22, 0, 1)}, {Serials: upTo(1<<22, math.MinInt64, 1)}} {
		for _, put := range []func(api.CRL) ([]byte, api.Errno){crls.Put, crls.Body} {
			if got, e := put(c); e != api.ErrCRL || len(got) != 0 {
				t.Error(short(c.Issuer), len(c.Serials), e)
			}
		}
		if crls.Lists(c, 1<<40, 0) {
			t.Error("nothing of that serial was taken back")
		}
	}
}

// whole is a list with its spare room, roomy one with spare room behind it, filled with what stands there.
func whole[T any](list []T) []T { return list[:cap(list)] }

func roomy[T any](list []T, behind T) []T {
	out := append(make([]T, 0, len(list)+4), list...)
	for i := len(list); i < cap(out); i++ {
		out[:cap(out)][i] = behind
	}
	return out
}

// roomyList is all, with spare room in each of its lists. Its serials' spare room goes on rising, as if more stood there.
func roomyList() api.CRL {
	c := all()
	for i := range c.Issuer {
		c.Issuer[i].Oid = roomy(c.Issuer[i].Oid, 77)
	}
	c.Issuer, c.Serials = roomy(c.Issuer, api.Attr{Text: "spare"}), roomy(c.Serials, 1<<62+1)
	return c
}

// told is all of a list, its lists' spare room too.
func told(c api.CRL) string {
	s := fmt.Sprint(c, whole(c.Issuer), whole(c.Serials))
	for _, a := range c.Issuer {
		s += fmt.Sprint(whole(a.Oid))
	}
	return s
}

// apart writes over all of a list's lists, their spare room too; it tells whether no two of one kind share any.
func apart(c api.CRL) bool {
	var arcs [][]int
	for i, a := range c.Issuer {
		for j := range whole(a.Oid) {
			whole(a.Oid)[j] = 1000 + i
		}
		arcs = append(arcs, whole(a.Oid))
	}
	for i := range whole(c.Serials) {
		whole(c.Serials)[i] = -77
	}
	for i := range whole(c.Issuer) {
		whole(c.Issuer)[i] = api.Attr{Text: "gone"}
	}
	for i, list := range arcs {
		if slices.ContainsFunc(list, func(arc int) bool { return arc != 1000+i }) {
			return false
		}
	}
	return true
}

// scribble writes over all of some bytes, their spare room too.
func scribble(b []byte) {
	for i := range whole(b) {
		whole(b)[i] = 0xee
	}
}

// P3: a list that is handed in is not changed, nor its spare room, nor kept; its bytes are new memory.
func TestPutTakesNothing(t *testing.T) {
	body, node, _ := asTold(all())
	for _, x := range []struct {
		put  func(api.CRL) ([]byte, api.Errno)
		want string
	}{{crls.Put, node}, {crls.Body, body}} {
		c := roomyList()
		got, e := x.put(c)
		again, f := x.put(c)
		if e != api.OK || f != api.OK || string(got) != x.want || string(again) != x.want {
			t.Fatalf("%x %v, and then %x %v", got, e, again, f)
		}
		scribble(got)
		if told(c) != told(roomyList()) || !one(c, all()) || string(again) != x.want {
			t.Fatal("what was handed in has changed, or the bytes lie in it, or in others")
		}
		if !apart(c) || string(again) != x.want {
			t.Fatal("the list lies in its bytes")
		}
		for _, spoil := range []func(c *api.CRL){func(c *api.CRL) { c.Sig = -1 }, func(c *api.CRL) { c.Issuer[0].Text = "\xff" }, func(c *api.CRL) { c.Serials[1] = 7000 }} {
			c, kept := roomyList(), roomyList()
			spoil(&c)
			spoil(&kept)
			if _, e := x.put(c); e != api.ErrCRL || told(c) != told(kept) {
				t.Fatal("what was refused has changed", e)
			}
		}
	}
}

// P3: so it is of bytes that are handed in, and of the list that comes out.
func TestGetTakesNothing(t *testing.T) {
	b := roomy([]byte(allBytes), 0xee)
	unchanged := func() bool { return bytes.Equal(whole(b), whole(roomy([]byte(allBytes), 0xee))) }
	got, e := crls.Get(b)
	again, f := crls.Get(b)
	if e != api.OK || f != api.OK || !one(got, all()) || !one(again, all()) || !unchanged() {
		t.Fatalf("%s %v, and then %s %v", short(got), e, short(again), f)
	}
	if !apart(got) {
		t.Fatal("two lists of the list lie in one another")
	}
	if !unchanged() || !one(again, all()) {
		t.Fatal("the list lies in its bytes, or in others")
	}
	scribble(b)
	if !one(again, all()) {
		t.Fatal("the bytes lie in their list")
	}
	for _, wrong := range []string{with(3, numbers(3, 3)), allBytes + "\x00", allBytes[:50], with(3, "\x31\x00")} {
		b := roomy([]byte(wrong), 0xee)
		if _, e := crls.Get(b); e == api.OK || !bytes.Equal(whole(b), whole(roomy([]byte(wrong), 0xee))) {
			t.Fatal("what was refused has changed", e)
		}
	}
}

// P3: Lists asks and does nothing else, also of lists that are not right; serials in spare room are none of a list's.
func TestListsTakesNothing(t *testing.T) {
	for _, serials := range [][]int64{{0, 2, 300}, {300, 2, 0}, {5, 1, 3, 3}} {
		c, kept := roomyList(), roomyList()
		c.Serials, kept.Serials = roomy(serials, 4000), roomy(serials, 4000)
		for range 2 {
			if !crls.Lists(c, serials[1], 7) || crls.Lists(c, 4000, 7) || crls.Lists(c, 4, 7) || told(c) != told(kept) {
				t.Fatal("what was asked has changed, or its spare room is asked", short(c))
			}
		}
	}
}

func ExampleLists() {
	c := api.CRL{This: 5, Next: 9, Serials: []int64{2}}
	fmt.Println(crls.Lists(c, 2, 9), crls.Lists(c, 2, 10))
	// Output: true false
}

func ExamplePut() {
	root := api.Name{{Oid: []int{2, 5, 4, 3}, Text: "Root"}}
	b, err := crls.Put(api.CRL{Issuer: root, This: 0, Next: 86400, Serials: []int64{3, 7}, Sig: 6})
	fmt.Println(len(b), err == api.OK)
	_, err = crls.Put(api.CRL{Issuer: root, Serials: []int64{3, 3}})
	fmt.Println(err)
	// Output:
	// 67 true
	// warder: error 121
}
