package certs_test

import (
	"bytes"
	"fmt"
	"math"
	"slices"
	"strings"
	"testing"

	"warder/api"
	"warder/certs"
	"warder/exts"
	"warder/names"
	"warder/nodes"
	"warder/texts"
)

// drawn tells numbers that look drawn, and are the same each time.
func drawn() func(below int) int {
	state := uint64(1)
	return func(below int) int {
		state = state*6364136223846793005 + 1442695040888963407
		return int(state>>33) % below
	}
}

// der are a value's bytes, written without the program's help.
func der(tag byte, parts ...string) string {
	body := strings.Join(parts, "")
	head := []byte{tag}
	switch n := len(body); {
	case n < 0x80:
		head = append(head, byte(n))
	case n < 0x100:
		head = append(head, 0x81, byte(n))
	default:
		head = append(head, 0x82, byte(n>>8), byte(n))
	}
	return string(head) + body
}

// number are a number's bytes from 0 on, as few as there may be, the highest first.
func number(n int64) string {
	out := string([]byte{byte(n)})
	for ; n > 0x7f; n = n >> 8 {
		out = string([]byte{byte(n >> 8)}) + out
	}
	return der(0x02, out)
}

// mention is how a handle stands in bytes.
func mention(n int64) string {
	b := []byte{0x04, 0x08, 0xc1, 0x5e}
	for shift := 40; shift >= 0; shift -= 8 {
		b = append(b, byte(n>>shift))
	}
	return string(b)
}

func isHandle(n int) bool { return n >= 0 && int64(n) < 1<<48 }

// cn is a name of one part, cnBytes are its node's.
func cn(text string) api.Name { return api.Name{{Oid: []int{2, 5, 4, 3}, Text: text}} }

func cnBytes(text string) string {
	return der(0x30, der(0x30, der(0x06, "\x55\x04\x03"), der(0x0c, text)))
}

func odd(crit bool, body string, arcs ...int) api.Odd {
	return api.Odd{Oid: arcs, Crit: crit, Body: []byte(body)}
}

// short is how something is told where it is wrong.
func short(x any) string {
	s := fmt.Sprintf("%+v", x)
	return s[:min(len(s), 300)]
}

func oneName(a, b api.Name) bool {
	return slices.EqualFunc(a, b, func(x, y api.Attr) bool { return slices.Equal(x.Oid, y.Oid) && x.Text == y.Text })
}

func oneExts(a, b api.Exts) bool {
	return a.HasCA == b.HasCA && a.CA == b.CA && a.Path == b.Path && a.Usage == b.Usage &&
		slices.EqualFunc(a.Eku, b.Eku, slices.Equal[[]int]) &&
		slices.EqualFunc(a.Princs, b.Princs, func(x, y api.Princ) bool { return x.Realm == y.Realm && slices.Equal(x.Names, y.Names) }) &&
		slices.EqualFunc(a.Permit, b.Permit, oneName) && slices.EqualFunc(a.Exclude, b.Exclude, oneName) &&
		slices.EqualFunc(a.Odd, b.Odd, func(x, y api.Odd) bool {
			return slices.Equal(x.Oid, y.Oid) && x.Crit == y.Crit && bytes.Equal(x.Body, y.Body)
		})
}

// oneButSig: are two certificates one but for Sig, be their empty lists nil or not? one: are they one?
func oneButSig(a, b api.Cert) bool {
	return a.Serial == b.Serial && oneName(a.Issuer, b.Issuer) && a.From == b.From && a.To == b.To &&
		oneName(a.Subject, b.Subject) && a.Key == b.Key && oneExts(a.Exts, b.Exts)
}

func one(a, b api.Cert) bool { return oneButSig(a, b) && a.Sig == b.Sig }

// Parts of a certificate that are not right, or are at an edge.
var (
	word    = strings.Repeat("x", 64)
	longOID = append([]int{2}, slices.Repeat([]int{1<<28 - 81}, 15)...) // of 60 bytes, as many as there may be
	longDN  = slices.Repeat(api.Name{{Oid: longOID, Text: word}}, 8)
)

func wrongNames() []api.Name {
	return []api.Name{{{}}, {{Text: "a"}}, cn(word + "x"), cn("\xff"), cn("a\xc3"), slices.Repeat(cn("a"), 9), append(cn("a"), api.Attr{Oid: []int{3, 1}}), {{Oid: []int{2}, Text: "a"}}, make(api.Name, 9), slices.Repeat(cn("a"), 1000)}
}

func wrongExts() []api.Exts {
	return []api.Exts{
		{CA: true}, {Path: 1}, {Path: -1}, {HasCA: true, Path: 1}, {HasCA: true, CA: true, Path: 101}, {HasCA: true, CA: true, Path: -2}, {Eku: [][]int{nil}}, {Eku: make([][]int, 17)}, {Princs: make([]api.Princ, 1)}, {Permit: []api.Name{cn("\xff")}},
		{Exclude: []api.Name{cn("\xff")}}, {Permit: make([]api.Name, 17)}, {Odd: []api.Odd{odd(false, "", 2, 5, 29, 19)}}, {Odd: []api.Odd{odd(false, "", 1, 9), odd(true, "x", 1, 9)}}, {Odd: []api.Odd{odd(false, strings.Repeat("x", 1025), 1, 9)}}, {Odd: make([]api.Odd, 17)},
	}
}

// wrongAsTold: is a certificate not right, by the section Types?
func wrongAsTold(c api.Cert) bool {
	_, issuer := names.Put(c.Issuer)
	_, subject := names.Put(c.Subject)
	_, said := exts.Put(c.Exts)
	return c.Serial < 0 || c.Serial > 1<<62 || issuer != api.OK || subject != api.OK || said != api.OK ||
		c.From < -631152000 || c.From > 253402300799 || c.To < -631152000 || c.To > 253402300799 || !isHandle(c.Key) || !isHandle(c.Sig)
}

func printed(n api.Node, _ api.Errno) string {
	b, _ := nodes.Print(n)
	return string(b)
}

func clock(sec int64) string {
	tag, body, _ := texts.PutTime(sec)
	return der(tag, string(body))
}

// asTold are a right certificate's body and its bytes, by the section Types.
func asTold(c api.Cert) (string, string, api.Errno) {
	if wrongAsTold(c) {
		return "", "", api.ErrCert
	}
	parts := []string{number(c.Serial), printed(names.Put(c.Issuer)), der(0x30, clock(c.From), clock(c.To)), printed(names.Put(c.Subject)), mention(int64(c.Key))}
	if said := printed(exts.Put(c.Exts)); said != "\x30\x00" {
		parts = append(parts, der(0xa3, said))
	}
	body := der(0x30, parts...)
	return body, der(0x30, body, mention(int64(c.Sig))), api.OK
}

// reader reads the parts of a certificate; it is wrong once one of them is.
type reader struct{ wrong bool }

func (r *reader) need(ok bool) { r.wrong = r.wrong || !ok }

// leaf is the body of a node that has a tag, and no kids.
func (r *reader) leaf(n api.Node, tag byte) []byte {
	r.need(n.Tag == tag && len(n.Kids) == 0)
	return n.Body
}

// kids are those of a node that has a tag: from and to are how many it may have.
func (r *reader) kids(n api.Node, tag byte, from, to int) []api.Node {
	r.need(n.Tag == tag && len(n.Body) == 0 && len(n.Kids) >= from && len(n.Kids) <= to)
	return append(slices.Clone(n.Kids), make([]api.Node, to)...)
}

func (r *reader) handle(n api.Node) int {
	b := r.leaf(n, 0x04)
	if len(b) != 8 || b[0] != 0xc1 || b[1] != 0x5e {
		r.need(false)
		return 0
	}
	h := 0
	for _, x := range b[2:] {
		h = h*256 + int(x)
	}
	return h
}

func (r *reader) serial(n api.Node) int64 {
	b := r.leaf(n, 0x02)
	if len(b) < 1 || len(b) > 8 || b[0] > 0x7f || len(b) > 1 && b[0] == 0 && b[1] < 0x80 {
		r.need(false)
		return 0
	}
	s := int64(0)
	for _, x := range b {
		s = s*256 + int64(x)
	}
	r.need(s <= 1<<62)
	return s
}

func (r *reader) name(n api.Node) api.Name {
	name, e := names.Get(n)
	r.need(e == api.OK)
	return name
}

func (r *reader) time(n api.Node) int64 {
	r.need(len(n.Kids) == 0)
	sec, e := texts.Time(n.Tag, n.Body)
	r.need(e == api.OK)
	return sec
}

// ofBytes is the right certificate whose node's bytes these are, part by part.
func ofBytes(b string) (api.Cert, api.Errno) {
	n, _, e := nodes.Parse([]byte(b))
	if e != api.OK {
		return api.Cert{}, e
	}
	var r reader
	var c api.Cert
	parts := r.kids(n, 0x30, 2, 2)
	body := r.kids(parts[0], 0x30, 5, 6)
	times := r.kids(body[2], 0x30, 2, 2)
	c.Serial, c.Issuer, c.From, c.To = r.serial(body[0]), r.name(body[1]), r.time(times[0]), r.time(times[1])
	c.Subject, c.Key, c.Sig = r.name(body[3]), r.handle(body[4]), r.handle(parts[1])
	if len(parts[0].Kids) == 6 {
		kids := r.kids(body[5], 0xa3, 1, 1)
		said, e := exts.Get(kids[0])
		r.need(e == api.OK && len(kids[0].Kids) > 0)
		c.Exts = said
	}
	if r.wrong {
		return api.Cert{}, api.ErrCert
	}
	return c, api.OK
}

// holdCert: its bytes and its body are as told, and are read as it was. It tells whether it is right.
func holdCert(t *testing.T, c api.Cert) bool {
	t.Helper()
	body, whole, wrong := asTold(c)
	if got, e := certs.Body(c); e != wrong || string(got) != body {
		t.Fatalf("%s: body %.300x %v, not %.300x %v", short(c), got, e, body, wrong)
	}
	got, e := certs.Put(c)
	if e != wrong || string(got) != whole {
		t.Fatalf("%s: put %.300x %v, not %.300x %v", short(c), got, e, whole, wrong)
	}
	if e != api.OK {
		return false
	}
	if again, e := certs.Get(got); e != api.OK || !one(again, c) {
		t.Fatalf("%s: put %.300x, and got %s %v", short(c), got, short(again), e)
	}
	return true
}

// holdBytes: they are read as told, and put as they stood. It tells whether they are a certificate's.
func holdBytes(t *testing.T, b string) bool {
	t.Helper()
	got, e := certs.Get([]byte(b))
	want, wrong := ofBytes(b)
	if e != wrong || !one(got, want) {
		t.Fatalf("%.400x: got %s %v, not %s %v", b, short(got), e, short(want), wrong)
	}
	if e != api.OK {
		return false
	}
	if again, f := certs.Put(got); f != api.OK || string(again) != b {
		t.Fatalf("%.400x: got %s, and put %.400x %v", b, short(got), again, f)
	}
	return true
}

// refused: what is no right certificate has neither bytes nor a body.
func refused(t *testing.T, c api.Cert) {
	t.Helper()
	if got, e := certs.Put(c); e != api.ErrCert || len(got) != 0 {
		t.Errorf("%s: put %.200x %v", short(c), got, e)
	}
	if got, e := certs.Body(c); e != api.ErrCert || len(got) != 0 {
		t.Errorf("%s: body %.200x %v", short(c), got, e)
	}
	holdCert(t, c)
}

// nothing: of these bytes there is no certificate, by this error.
func nothing(t *testing.T, b string, want api.Errno) {
	t.Helper()
	if got, e := certs.Get([]byte(b)); e != want || !one(got, api.Cert{}) {
		t.Errorf("%.400x: got %s %v, not %v", b, short(got), e, want)
	}
	holdBytes(t, b)
}

// all is a certificate that has each, bare one without extensions; allBytes and bareBytes are theirs.
func all() api.Cert {
	return api.Cert{
		Serial: 0x1234, Issuer: append(cn("Root"), cn("R")...), From: 0, To: 2524608000, Subject: cn("Ann"), Key: 258, Sig: 1<<48 - 1,
		Exts: api.Exts{
			HasCA: true, CA: true, Path: 2, Usage: api.UseSign | api.UseCert, Eku: [][]int{{1, 2, 3}}, Princs: []api.Princ{{Realm: "R", Names: []string{"a", "b"}}},
			Permit: []api.Name{cn("Ann")}, Exclude: []api.Name{cn("Bob")}, Odd: []api.Odd{odd(true, "x", 1, 9), odd(false, "", 1, 10)},
		},
	}
}

func bare() api.Cert { return api.Cert{} }

const (
	utc      = "\x17\x0d700101000000Z"
	general  = "\x18\x0f20500101000000Z"
	handle0  = "\x04\x08\xc1\x5e\x00\x00\x00\x00\x00\x00"
	bareBody = "\x30\x31\x02\x01\x00\x30\x00\x30\x1e" + utc + utc + "\x30\x00" + handle0
	bareCert = "\x30\x3d" + bareBody + handle0
)

var (
	allExts = der(0x30,
		der(0x30, "\x06\x03\x55\x1d\x13", "\x01\x01\xff", der(0x04, "\x30\x06\x01\x01\xff\x02\x01\x02")),
		der(0x30, "\x06\x03\x55\x1d\x0f", "\x01\x01\xff", der(0x04, "\x03\x02\x02\x84")),
		der(0x30, "\x06\x03\x55\x1d\x25", der(0x04, der(0x30, "\x06\x02\x2a\x03"))),
		der(0x30, "\x06\x03\x55\x1d\x11", der(0x04, der(0x30, der(0x30, der(0x1b, "R"), der(0x30, der(0x1b, "a"), der(0x1b, "b")))))),
		der(0x30, "\x06\x03\x55\x1d\x1e", "\x01\x01\xff", der(0x04, der(0x30, der(0xa0, cnBytes("Ann")), der(0xa1, cnBytes("Bob"))))),
		der(0x30, "\x06\x01\x31", "\x01\x01\xff", "\x04\x01x"),
		der(0x30, "\x06\x01\x32", "\x04\x00"),
	)
	allIssuer = der(0x30, der(0x30, "\x06\x03\x55\x04\x03", "\x0c\x04Root"), der(0x30, "\x06\x03\x55\x04\x03", "\x0c\x01R"))
	allParts  = []string{"\x02\x02\x12\x34", allIssuer, der(0x30, utc, general), cnBytes("Ann"), "\x04\x08\xc1\x5e\x00\x00\x00\x00\x01\x02", der(0xa3, allExts)}
	allSig    = "\x04\x08\xc1\x5e\xff\xff\xff\xff\xff\xff"
	allBytes  = der(0x30, der(0x30, allParts...), allSig)
)

// with are the bytes of all, a part of its body another one.
func with(at int, part string) string {
	parts := slices.Clone(allParts)
	parts[at] = part
	return der(0x30, der(0x30, parts...), allSig)
}

// P11.1, P11.2, C1, C2: certificates, their bodies and their bytes.
func TestCertsAndTheirBytes(t *testing.T) {
	for _, c := range []struct {
		cert       api.Cert
		body, node string
	}{
		{bare(), bareBody, bareCert},
		{all(), der(0x30, allParts...), allBytes},
		{api.Cert{Issuer: api.Name{}, Subject: api.Name{}, Exts: api.Exts{Eku: [][]int{}, Odd: []api.Odd{}, Princs: []api.Princ{}, Permit: []api.Name{}, Exclude: []api.Name{}}}, bareBody, bareCert},
		{api.Cert{Sig: 258}, bareBody, "\x30\x3d" + bareBody + "\x04\x08\xc1\x5e\x00\x00\x00\x00\x01\x02"},
		{
			api.Cert{Serial: 128, Issuer: cn("A"), From: 2524608000, To: -1, Subject: cn("B"), Key: 1, Sig: 2, Exts: api.Exts{Usage: api.UseSign}},
			der(0x30, "\x02\x02\x00\x80", cnBytes("A"), der(0x30, general, "\x17\x0d691231235959Z"), cnBytes("B"), mention(1), "\xa3\x12\x30\x10\x30\x0e\x06\x03\x55\x1d\x0f\x01\x01\xff\x04\x04\x03\x02\x07\x80"),
			der(0x30, der(0x30, "\x02\x02\x00\x80", cnBytes("A"), der(0x30, general, "\x17\x0d691231235959Z"), cnBytes("B"), mention(1), "\xa3\x12\x30\x10\x30\x0e\x06\x03\x55\x1d\x0f\x01\x01\xff\x04\x04\x03\x02\x07\x80"), mention(2)),
		},
	} {
		if got, e := certs.Body(c.cert); e != api.OK || string(got) != c.body {
			t.Errorf("%s: body %x %v, not %x", short(c.cert), got, e, c.body)
		}
		if got, e := certs.Put(c.cert); e != api.OK || string(got) != c.node {
			t.Errorf("%s: put %x %v, not %x", short(c.cert), got, e, c.node)
		}
		if got, e := certs.Get([]byte(c.node)); e != api.OK || !one(got, c.cert) {
			t.Errorf("%x: got %s %v, not %s", c.node, short(got), e, short(c.cert))
		}
		if !holdCert(t, c.cert) || !holdBytes(t, c.node) {
			t.Errorf("%s is not right", short(c.cert))
		}
		nothing(t, c.body, api.ErrCert)
	}
}

// P11.1: with extensions there is a node of the tag A3, without there is none.
func TestExtensionsNode(t *testing.T) {
	for i, c := range []api.Cert{all(), {Exts: api.Exts{HasCA: true}}, {Exts: api.Exts{Usage: 1}}, {Exts: api.Exts{Odd: []api.Odd{odd(false, "", 1, 9)}}}, {Exts: api.Exts{Exclude: []api.Name{nil}}}, bare()} {
		b, _ := certs.Body(c)
		n, _, e := nodes.Parse(b)
		if e != api.OK || (len(n.Kids) == 6) != (i < 5) || i < 5 && (n.Kids[5].Tag != 0xa3 || len(n.Kids[5].Kids) != 1) || len(n.Kids) < 5 {
			t.Errorf("%s: %x %v", short(c), n, e)
		}
		holdCert(t, c)
	}
}

// P11.1, P2: each serial about the edges.
func TestSerials(t *testing.T) {
	list := []int64{math.MinInt64, math.MinInt64 + 1, math.MaxInt64, 1<<62 + 1, 1 << 62, 1<<62 - 1}
	for n := int64(-300); n <= 300; n++ {
		list = append(list, n)
	}
	for shift := range 62 {
		list = append(list, 1<<shift-1, 1<<shift, 1<<shift+1, -1<<shift)
	}
	for _, n := range list {
		for _, c := range []api.Cert{bare(), all()} {
			if c.Serial = n; holdCert(t, c) != (n >= 0 && n <= 1<<62) {
				t.Error(n)
			}
		}
	}
	for _, serial := range []string{"\x02\x01\xff", "\x02\x01\x80", "\x02\x02\xff\x7f", "\x02\x08\x80\x00\x00\x00\x00\x00\x00\x00", "\x02\x08\x40\x00\x00\x00\x00\x00\x00\x01", "\x02\x08\x7f\xff\xff\xff\xff\xff\xff\xff"} {
		nothing(t, with(0, serial), api.ErrCert)
	}
	for _, serial := range []string{"\x02\x01\x00", "\x02\x01\x7f", "\x02\x08\x40\x00\x00\x00\x00\x00\x00\x00", "\x02\x08\x3f\xff\xff\xff\xff\xff\xff\xff"} {
		if !holdBytes(t, with(0, serial)) {
			t.Errorf("%x", serial)
		}
	}
}

// P11.1, P2: From and To at each edge, each with each: the later one may stand first.
func TestTimes(t *testing.T) {
	right := func(sec int64) bool { return sec >= api.MinTime && sec <= api.MaxTime }
	list := []int64{math.MinInt64, api.MinTime - 1, api.MinTime, api.MinTime + 1, -1, 0, 1, 946684799, 946684800, 2524607999, 2524608000, 2524608001, 3000000000, api.MaxTime - 1, api.MaxTime, api.MaxTime + 1, math.MaxInt64}
	for _, from := range list {
		for _, to := range list {
			for _, c := range []api.Cert{bare(), all()} {
				if c.From, c.To = from, to; holdCert(t, c) != (right(from) && right(to)) {
					t.Error(from, to)
				}
			}
		}
	}
	for _, times := range []string{
		der(0x30), der(0x30, utc), der(0x30, utc, utc, utc), der(0x31, utc, utc), der(0xa0, utc, utc), utc, der(0x30, der(0x30, utc, utc)), der(0x30, utc, der(0x30)), der(0x30, "\x05\x00", utc), der(0x30, utc, "\x0c\x0d700101000000Z"), der(0x30, "\x97\x0d700101000000Z", utc),
		der(0x30, utc, "\x98\x0f20500101000000Z"), der(0x30, "\x04\x0d700101000000Z", utc), der(0x30, utc, utc, "\x05\x00"),
	} {
		nothing(t, with(2, times), api.ErrCert)
	}
	for _, sec := range []string{"\x17\x0f20500101000000Z", "\x18\x0d700101000000Z", "\x18\x0f20490101000000Z", "\x17\x0d701301000000Z", "\x17\x0d7001010000000", "\x17\x00"} { // no right nodes
		nothing(t, with(2, der(0x30, sec, utc)), api.ErrValue)
		nothing(t, with(2, der(0x30, utc, sec)), api.ErrValue)
	}
}

// P11.1, P2: Key and Sig at each edge, each with each; Sig must be right for a body too, though it is not in it.
func TestHandles(t *testing.T) {
	list := []int{math.MinInt, math.MinInt32, -2, -1, 0, 1, 255, 256, 1<<32 - 1, 1 << 32, 1<<40 - 1, 1<<48 - 1, 1 << 48, 1<<48 + 1, 1 << 56, math.MaxInt}
	for _, key := range list {
		for _, sig := range list {
			for _, c := range []api.Cert{bare(), all()} {
				if c.Key, c.Sig = key, sig; holdCert(t, c) != (isHandle(key) && isHandle(sig)) {
					t.Error(key, sig)
				}
			}
		}
	}
	parts := slices.Clone(allParts)
	for _, h := range []string{
		"\x04\x00", "\x04\x07\xc1\x5e\x00\x00\x00\x00\x01", "\x04\x09\xc1\x5e\x00\x00\x00\x00\x01\x02\x03", "\x04\x08\xc2\x5e\x00\x00\x00\x00\x01\x02", "\x04\x08\xc1\x5f\x00\x00\x00\x00\x01\x02", "\x04\x08\x5e\xc1\x00\x00\x00\x00\x01\x02", "\x04\x08\x00\x00\x00\x00\x00\x00\x01\x02",
		"\x84\x08\xc1\x5e\x00\x00\x00\x00\x01\x02", "\x80\x08\xc1\x5e\x00\x00\x00\x00\x01\x02", "\x02\x02\x01\x02", "\x05\x00", "\x30\x00", "\x03\x09\x00\xc1\x5e\x00\x00\x00\x00\x01\x02", der(0x30, mention(1)), "\x04\x0a" + mention(1),
	} {
		nothing(t, with(4, h), api.ErrCert)
		nothing(t, der(0x30, der(0x30, parts...), h), api.ErrCert)
		nothing(t, der(0x30, der(0x30, parts[:4]...), h), api.ErrCert)
	}
}

// P11.1, P2: right and wrong names at both places, and right and wrong extensions.
func TestNamesAndExts(t *testing.T) {
	for _, n := range []api.Name{nil, {}, cn(""), cn("Ann"), cn(word), longDN, slices.Repeat(cn("a"), 8), cn("é\U0001f600")} {
		c := all()
		if c.Issuer = n; !holdCert(t, c) {
			t.Error(short(n))
		}
		if c.Subject = n; !holdCert(t, c) {
			t.Error(short(n))
		}
		if c.Issuer = nil; !holdCert(t, c) {
			t.Error(short(n))
		}
	}
	for _, n := range wrongNames() {
		for _, c := range []api.Cert{bare(), all()} {
			d := c
			c.Issuer, d.Subject = n, n
			refused(t, c)
			refused(t, d)
			c.Subject = n
			refused(t, c)
		}
	}
	for _, x := range wrongExts() {
		for _, c := range []api.Cert{bare(), all()} {
			c.Exts = x
			refused(t, c)
		}
	}
	for _, n := range []string{"\x31\x00", "\x05\x00", "\x0c\x03Ann", "\xa0\x00", der(0x30, cnBytes("Ann")), der(0x30, der(0x30, "\x06\x03\x55\x04\x03", "\x0c\x03Ann", "\x05\x00")), der(0x30, der(0x30, "\x06\x03\x55\x04\x03", "\x13\x03Ann")), cnBytes(word + "x"), der(0x30, strings.Repeat(cnBytes("a")[2:], 9)), der(0x31, cnBytes("a")[2:])} {
		nothing(t, with(1, n), api.ErrCert)
		nothing(t, with(3, n), api.ErrCert)
	}
	for _, x := range []string{
		"\xa3\x00", "\xa3\x02\x30\x00", "\x30\x00", "\x05\x00", allExts, der(0xa3, allExts, allExts), der(0xa3, allExts, "\x30\x00"), der(0xa3, "\x30\x00", allExts), der(0xa3, der(0xa3, allExts)), der(0xa2, allExts), der(0xa4, allExts), der(0x83, allExts), der(0xb0, allExts), der(0xe3, allExts), der(0x63, allExts), der(0x31, allExts),
		"\xa3" + allExts[1:], der(0xa3, "\x31\x00"), der(0xa3, der(0x31, der(0x30, "\x06\x01\x31", "\x04\x00"))), der(0xa3, "\x05\x00"), der(0xa3, der(0x30, "\x05\x00")), der(0xa3, der(0x30, der(0x30, "\x06\x03\x55\x1d\x13", "\x04\x02\x30\x00"))), der(0xa3, der(0x30, der(0x30, "\x06\x03\x55\x1d\x0f", "\x01\x01\xff", "\x04\x03\x03\x01\x00"))),
	} {
		nothing(t, with(5, x), api.ErrCert)
	}
}

// P11.1, P2: each field wrong, alone and with each other one, has one error; nothing comes out beside it.
func TestWrongFields(t *testing.T) {
	spoils := []func(c *api.Cert){
		func(c *api.Cert) { c.Serial = -1 }, func(c *api.Cert) { c.Serial = 1<<62 + 1 }, func(c *api.Cert) { c.Issuer = cn("\xff") }, func(c *api.Cert) { c.From = api.MaxTime + 1 }, func(c *api.Cert) { c.To = api.MinTime - 1 },
		func(c *api.Cert) { c.Subject = make(api.Name, 1) }, func(c *api.Cert) { c.Key = -1 }, func(c *api.Cert) { c.Exts.Path = 101 }, func(c *api.Cert) { c.Exts.HasCA = false; c.Exts.CA = true }, func(c *api.Cert) { c.Sig = 1 << 48 },
	}
	for _, first := range spoils {
		for _, second := range spoils {
			for _, c := range []api.Cert{bare(), all()} {
				first(&c)
				refused(t, c)
				second(&c)
				refused(t, c)
			}
		}
	}
	if !holdCert(t, all()) {
		t.Error("what is right is refused")
	}
}

// P11.1, P2, C2: of bytes that are no node, the error is that of nodes.Parse, whatever they begin with.
func TestErrorsOfParse(t *testing.T) {
	for at := range len(allBytes) {
		if _, e := certs.Get([]byte(allBytes[:at])); e != api.ErrEnd {
			t.Error(at, e)
		}
		holdBytes(t, allBytes[:at])
		holdBytes(t, allBytes[at:])
	}
	deep := ""
	for range 33 {
		deep = der(0x30, deep)
	}
	for _, c := range []struct {
		b string
		e api.Errno
	}{
		{"", api.ErrEnd},
		{"\x1f\x00", api.ErrTag},
		{"\x30\x80", api.ErrLength},
		{"\x30\x81\x3d" + bareCert[2:], api.ErrLength},
		{bareCert + "\x00", api.ErrRest},
		{bareCert + bareCert, api.ErrRest},
		{allBytes + "\x05\x00", api.ErrRest},
		{"\x30\x00\x00", api.ErrRest},
		{deep, api.ErrDeep},
		{with(1, deep), api.ErrDeep},
		{with(5, der(0x31, "\x02\x01\x05", "\x02\x01\x04")), api.ErrOrder},
		{der(0x31, bareBody, handle0), api.ErrOrder},
		{der(0x30, "\x31"+bareBody[1:], handle0), api.ErrOrder},
		{with(5, der(0xa3, "\x31"+allExts[1:])), api.ErrOrder},
		{with(0, "\x02\x02\x00\x05"), api.ErrValue},
		{with(0, "\x02\x00"), api.ErrValue},
		{with(0, "\x02\x09\x00\x80\x00\x00\x00\x00\x00\x00\x00"), api.ErrValue},
		{with(0, "\x0a\x01\x05"), api.ErrValue},
		{with(3, cnBytes("\xff")), api.ErrValue},
		{with(3, cnBytes("\xff")) + "\x00", api.ErrValue},
		{"\x30\x00", api.ErrCert},
		{"\x05\x00", api.ErrCert},
	} {
		nothing(t, c.b, c.e)
	}
}

// leaf and over are nodes.
func leaf(tag byte, body string) api.Node { return api.Node{Tag: tag, Body: []byte(body)} }

func over(tag byte, kids ...api.Node) api.Node { return api.Node{Tag: tag, Kids: kids} }

// near are nodes near one, that differ from it at one place, wherever it is.
func near(n api.Node) []api.Node {
	var out []api.Node
	for _, tag := range []byte{0x01, 0x02, 0x03, 0x04, 0x05, 0x06, 0x0c, 0x13, 0x16, 0x17, 0x18, 0x1b, 0x30, 0x31, 0x80, 0xa0, 0xa2, 0xa3, 0xa4, 0xb0} {
		if tag != n.Tag {
			out = append(out, api.Node{Tag: tag, Body: n.Body, Kids: n.Kids})
		}
	}
	for _, body := range [][]byte{append(bytes.Clone(n.Body), 0), append([]byte{0}, n.Body...), nil, {0}, {0xff}, n.Body[:max(len(n.Body)-1, 0)], n.Body[min(len(n.Body), 1):]} {
		out = append(out, api.Node{Tag: n.Tag, Body: body, Kids: n.Kids})
	}
	kids := func(kids []api.Node) { out = append(out, api.Node{Tag: n.Tag, Body: n.Body, Kids: kids}) }
	for at := range len(n.Kids) + 1 {
		for _, kid := range []api.Node{over(0x30), over(0xa3), over(0xa3, over(0x30)), leaf(0x02, "\x05"), leaf(0x04, handle0[2:]), leaf(0x05, ""), leaf(0x17, "700101000000Z")} {
			kids(slices.Insert(slices.Clone(n.Kids), at, kid))
		}
		if at == len(n.Kids) {
			break
		}
		kids(slices.Delete(slices.Clone(n.Kids), at, at+1))
		kids(slices.Insert(slices.Clone(n.Kids), at, n.Kids[at]))
		kids(n.Kids[at:])
		kids(n.Kids[:at])
		for other := range at {
			swapped := slices.Clone(n.Kids)
			swapped[at], swapped[other] = swapped[other], swapped[at]
			kids(swapped)
		}
		for _, kid := range near(n.Kids[at]) {
			replaced := slices.Clone(n.Kids)
			replaced[at] = kid
			kids(replaced)
		}
	}
	return out
}

// P11.1, P11.2: bytes of nodes near a certificate's, and of nodes that are nothing of the kind.
func TestNodesNearCerts(t *testing.T) {
	right, count := 0, 0
	for _, b := range []string{allBytes, bareCert} {
		n, _, e := nodes.Parse([]byte(b))
		if e != api.OK {
			t.Fatal(e)
		}
		for _, other := range near(n) {
			changed, e := nodes.Print(other)
			if e != api.OK {
				continue
			}
			count++
			if holdBytes(t, string(changed)) {
				right++
			}
		}
	}
	if right < 20 || right > count/2 || count < 1000 {
		t.Error(right, count)
	}
	for _, b := range []string{
		"\x30\x00", "\x31\x00", "\x05\x00", "\x04\x00", "\xa3\x00", mention(1), der(0x04, bareCert), der(0x30, bareCert), der(0x30, bareBody), der(0x30, handle0), der(0x30, bareBody, bareBody), der(0x30, handle0, bareBody), der(0x30, bareBody, handle0, handle0), der(0x30, bareBody, handle0, "\x05\x00"),
		der(0x31, handle0, bareBody), der(0xa0, bareBody, handle0), der(0x30, der(0x04, bareBody), handle0), der(0x30, "\xb0"+bareBody[1:], handle0), der(0x30, bareBody+"\x05\x00", handle0), der(0x30, der(0x30, slices.Repeat([]string{"\x30\x00"}, 5)...), handle0),
	} {
		nothing(t, b, api.ErrCert)
	}
	for n := range 9 {
		parts := append(slices.Clone(allParts), der(0xa3, allExts), allSig, "\x05\x00")[:n]
		if holdBytes(t, der(0x30, der(0x30, parts...), allSig)) != (n == 5 || n == 6) {
			t.Error(n, "parts")
		}
	}
}

// P11.1, P11.2: each byte changed to each other one, left out, and put in.
func TestEachByteChanged(t *testing.T) {
	right := 0
	for _, b := range []string{allBytes, bareCert} {
		for at := range len(b) {
			for x := range 0x100 {
				s := string([]byte{byte(x)})
				if holdBytes(t, b[:at]+s+b[at+1:]) {
					right++
				}
				if len(b) < 0x80 {
					holdBytes(t, b[:at]+s+b[at:])
				}
			}
			holdBytes(t, b[:at]+b[at+1:])
		}
	}
	if right < 1000 {
		t.Error(right)
	}
}

// P11.1: the greatest certificate of all fits into a value.
func TestGreatestCert(t *testing.T) {
	var x api.Exts
	x.HasCA, x.CA, x.Path, x.Usage = true, true, 100, 0xffff
	who := api.Princ{Realm: word, Names: slices.Repeat([]string{word}, 8)}
	x.Eku, x.Princs, x.Permit, x.Exclude = slices.Repeat([][]int{longOID}, 16), slices.Repeat([]api.Princ{who}, 16), slices.Repeat([]api.Name{longDN}, 16), slices.Repeat([]api.Name{longDN}, 16)
	for i := range 16 {
		oid := append(slices.Clone(longOID[:15]), 1<<27+i)
		x.Odd = append(x.Odd, api.Odd{Oid: oid, Crit: true, Body: bytes.Repeat([]byte{byte(i)}, 1024)})
	}
	c := api.Cert{Serial: 1 << 62, Issuer: longDN, From: api.MaxTime, To: api.MaxTime, Subject: longDN, Key: 1<<48 - 1, Exts: x, Sig: 1<<48 - 1}
	b, e := certs.Put(c)
	if e != api.OK || len(b) < 64000 || len(b) > api.MaxBody || !holdCert(t, c) || !holdBytes(t, string(b)) {
		t.Error(len(b), e)
	}
}

// others are certificates that differ from one at one place each, but not in Sig.
func others(c api.Cert) []api.Cert {
	var out []api.Cert
	change := func(do func(c *api.Cert)) {
		d := c
		do(&d)
		out = append(out, d)
	}
	for _, n := range []api.Name{nil, cn(""), cn("Ann"), cn("ann"), cn(" Ann"), append(cn("Ann"), cn("Ann")...), {{Oid: []int{2, 5, 4, 4}, Text: "Ann"}}, {{Oid: []int{2, 5, 4}, Text: "\x03Ann"}}} {
		change(func(c *api.Cert) { c.Issuer = n })
		change(func(c *api.Cert) { c.Subject = n })
	}
	for _, n := range []int64{1, 2, 77, 128, 256, 1 << 32, 1 << 62} {
		change(func(c *api.Cert) { c.Serial = n })
		change(func(c *api.Cert) { c.From = min(n, api.MaxTime) })
		change(func(c *api.Cert) { c.To = min(n, api.MaxTime) })
		change(func(c *api.Cert) { c.Key = int(min(n, 1<<48-1)) })
	}
	for _, x := range []api.Exts{{}, {HasCA: true}, {HasCA: true, CA: true}, {HasCA: true, CA: true, Path: -1}, {Usage: 1}, {Usage: 1 << 15}, {Eku: [][]int{{1, 9}}}, {Eku: [][]int{{1, 9}, {1, 9}}}, {Princs: []api.Princ{{Realm: "R", Names: []string{"a"}}}}, {Permit: []api.Name{nil}}, {Exclude: []api.Name{nil}}, {Permit: []api.Name{nil, nil}}, {Odd: []api.Odd{odd(false, "", 1, 9)}}, {Odd: []api.Odd{odd(true, "", 1, 9)}}, {Odd: []api.Odd{odd(false, "\x30\x00", 1, 9)}}} {
		change(func(c *api.Cert) { c.Exts = x })
	}
	return out
}

// P11.3: certificates that are not alike but for Sig have unlike bodies; those that are have one.
func TestUnlikeBodies(t *testing.T) {
	list := slices.Concat([]api.Cert{bare(), all()}, others(bare()), others(all()))
	for _, c := range others(bare())[:20] {
		list = append(list, others(c)...)
	}
	whose := map[string]api.Cert{}
	for _, c := range list {
		b, e := certs.Body(c)
		if e != api.OK {
			t.Fatal(short(c), e)
		}
		if other, is := whose[string(b)]; is && !oneButSig(other, c) {
			t.Fatalf("%s and %s: %x", short(other), short(c), b)
		}
		whose[string(b)] = c
		for _, sig := range []int{0, 1, 1<<48 - 1} {
			c.Sig = sig
			if again, e := certs.Body(c); e != api.OK || !bytes.Equal(again, b) {
				t.Fatalf("%s: %x %v, not %x", short(c), again, e, b)
			}
			holdCert(t, c)
		}
	}
	if len(whose) < 500 {
		t.Error(len(whose))
	}
}

func drawWord(next func(int) int) string {
	return strings.Repeat(string([]byte{byte(0x20 + next(0x5f))}), 1+next(1+next(64)))
}

func drawName(next func(int) int) api.Name {
	var n api.Name
	for range next(1 + next(9)) {
		n = append(n, api.Attr{Oid: []int{2, 5, 4, next(300)}, Text: drawWord(next)[1:] + []string{"", "é", "\U0001f600"}[next(3)]})
	}
	if len(n) > 0 && next(30) == 0 {
		n[0].Text = "\xff"
	}
	return n
}

func drawExts(next func(int) int) api.Exts {
	var x api.Exts
	if next(3) == 0 {
		return x
	}
	x.HasCA = next(2) > 0
	if x.CA = x.HasCA && next(2) > 0; x.CA {
		x.Path = next(103) - 1
	}
	x.Usage = uint16(next(1<<16) >> next(17))
	for range next(3) {
		x.Eku = append(x.Eku, []int{1, next(40), next(1 << 20)})
		x.Princs = append(x.Princs, api.Princ{Realm: drawWord(next), Names: []string{drawWord(next)}})
		x.Permit = append(x.Permit, drawName(next))
		x.Exclude = append(x.Exclude, drawName(next))
		x.Odd = append(x.Odd, odd(next(2) > 0, drawWord(next), 1, next(40), len(x.Odd)))
	}
	return x
}

// drawCert is a certificate, right but for now and then a part.
func drawCert(next func(int) int) api.Cert {
	wide := func(bits int) int64 {
		return int64((uint64(next(1<<30))<<34 | uint64(next(1<<30))<<4) >> (64 - bits) >> next(bits))
	}
	return api.Cert{
		Serial: wide(63), Issuer: drawName(next), From: wide(39), To: wide(39), Subject: drawName(next),
		Key: int(wide(49)), Exts: drawExts(next), Sig: int(wide(49)),
	}
}

// P11.2, P11.1, P11.3: drawn certificates there and back, with bytes of theirs changed; and no two have one body.
func TestThereAndBack(t *testing.T) {
	next := drawn()
	whose := map[string]api.Cert{}
	right, spoilt := 0, 0
	for range 2000 {
		c := drawCert(next)
		if !holdCert(t, c) {
			continue
		}
		right++
		body, _ := certs.Body(c)
		if other, is := whose[string(body)]; is && !oneButSig(other, c) {
			t.Fatalf("%s and %s: %.200x", short(other), short(c), body)
		}
		whose[string(body)] = c
		b, _ := certs.Put(c)
		for range 20 {
			b[next(len(b))] ^= 1 << next(8)
			if !holdBytes(t, string(b)) {
				b, _ = certs.Put(c)
				continue
			}
			spoilt++
		}
	}
	if right < 1000 || right == 2000 || spoilt < 1000 {
		t.Error("too few right ones, or no wrong ones", right, spoilt)
	}
}

// P1: very long, wide and deep bytes; certificates of very many and very long parts.
func TestCallsEnd(t *testing.T) {
	long := strings.Repeat("\x30", 1<<24)
	deep := ""
	for range 30 {
		deep = der(0x30, deep)
	}
	wide := strings.Repeat("\x30\x00", 1<<14)
	for _, b := range []string{
		long, strings.Repeat("\x30\x00", 1<<20), allBytes + long, deep, der(0x30, wide), der(0x30, der(0x30, wide), handle0), with(1, der(0x30, wide)), with(3, der(0x30, wide)), with(2, der(0x30, wide)), with(5, der(0xa3, wide)), with(5, der(0xa3, der(0x30, wide))), with(0, der(0x04, strings.Repeat("\x01", 1<<15))),
		with(4, der(0x04, strings.Repeat("\xc1\x5e", 1<<14))), with(5, der(0xa3, deep[4:])), string(make([]byte, 1<<24)), strings.Repeat("\xff", 1<<20), der(0x30, der(0x30), handle0), der(0x30, der(0x30, "\x30\x00", "\x30\x00"), handle0),
	} {
		holdBytes(t, b)
		if got, e := certs.Get([]byte(b)); e == api.OK || !one(got, api.Cert{}) {
			t.Errorf("%.100x: %s %v", b, short(got), e)
		}
	}
	if got, e := certs.Get(nil); e != api.ErrEnd || !one(got, api.Cert{}) {
		t.Error(short(got), e)
	}
	arcs := slices.Repeat([]int{1}, 1<<20)
	many := slices.Repeat(cn("a"), 1<<20)
	for _, c := range []api.Cert{{Issuer: many}, {Subject: many}, {Issuer: cn(long)}, {Subject: cn(long)}, {Issuer: api.Name{{Oid: arcs}}}, {Exts: api.Exts{Eku: [][]int{arcs}}}, {Exts: api.Exts{Odd: make([]api.Odd, 1<<20)}}, {Exts: api.Exts{Odd: []api.Odd{odd(false, long, 1, 9)}}}, {Exts: api.Exts{Permit: []api.Name{many}}}} {
		for _, put := range []func(api.Cert) ([]byte, api.Errno){certs.Put, certs.Body} {
			if got, e := put(c); e != api.ErrCert || len(got) != 0 {
				t.Error(short(c), e)
			}
		}
	}
}

// whole is a list with its spare room, roomy one with spare room behind it, filled with what stands there.
func whole[T any](list []T) []T { return list[:cap(list)] }

func roomy[T any](list []T, behind T) []T {
	out := append(make([]T, 0, len(list)+4), list...)
	for i := len(list); i < cap(out); i++ {
		out[:cap(out)][i] = behind
	}
	return out
}

func roomyName(n api.Name) api.Name {
	out := slices.Clone(n)
	for i := range out {
		out[i].Oid = roomy(out[i].Oid, 77)
	}
	return roomy(out, api.Attr{Text: "spare"})
}

// roomyCert is all, with spare room in each list.
func roomyCert() api.Cert {
	c := all()
	c.Issuer, c.Subject = roomyName(c.Issuer), roomyName(c.Subject)
	x := &c.Exts
	for i := range x.Eku {
		x.Eku[i] = roomy(x.Eku[i], 77)
	}
	for i := range x.Princs {
		x.Princs[i].Names = roomy(x.Princs[i].Names, "spare")
	}
	for _, list := range [][]api.Name{x.Permit, x.Exclude} {
		for i := range list {
			list[i] = roomyName(list[i])
		}
	}
	for i := range x.Odd {
		x.Odd[i].Oid, x.Odd[i].Body = roomy(x.Odd[i].Oid, 77), roomy(x.Odd[i].Body, 0xee)
	}
	x.Eku, x.Princs = roomy(x.Eku, []int{77}), roomy(x.Princs, api.Princ{Realm: "spare"})
	x.Permit, x.Exclude = roomy(x.Permit, cn("spare")), roomy(x.Exclude, cn("spare"))
	x.Odd = roomy(x.Odd, odd(true, "spare", 77))
	return c
}

// lists are all of a certificate, by their kinds, with their spare room.
type lists struct {
	arcs   [][]int
	words  [][]string
	bodies [][]byte
	names  [][]api.Attr
	spaces [][]api.Name
	ekus   [][][]int
	princs [][]api.Princ
	odds   [][]api.Odd
}

func listsOf(c api.Cert) lists {
	x := c.Exts
	all := lists{ekus: [][][]int{whole(x.Eku)}, princs: [][]api.Princ{whole(x.Princs)}, odds: [][]api.Odd{whole(x.Odd)}, spaces: [][]api.Name{whole(x.Permit), whole(x.Exclude)}}
	for _, arcs := range x.Eku {
		all.arcs = append(all.arcs, whole(arcs))
	}
	for _, p := range x.Princs {
		all.words = append(all.words, whole(p.Names))
	}
	for _, n := range slices.Concat([]api.Name{c.Issuer, c.Subject}, x.Permit, x.Exclude) {
		all.names = append(all.names, whole(n))
		for _, a := range n {
			all.arcs = append(all.arcs, whole(a.Oid))
		}
	}
	for _, o := range x.Odd {
		all.arcs = append(all.arcs, whole(o.Oid))
		all.bodies = append(all.bodies, whole(o.Body))
	}
	return all
}

// marked writes over each list what no other one has, and tells whether each still has its own behind that: then no two share any.
func marked[T any](lists [][]T, mark func(i int) T, is func(T, int) bool) bool {
	for i, list := range lists {
		for j := range list {
			list[j] = mark(i)
		}
	}
	for i, list := range lists {
		for _, x := range list {
			if !is(x, i) {
				return false
			}
		}
	}
	return true
}

// apart writes over all of a certificate's lists; it tells whether no two of one kind share any.
func apart(c api.Cert) bool {
	all := listsOf(c)
	text := func(i int) string { return fmt.Sprint(i) }
	return marked(all.arcs, func(i int) int { return i }, func(x, i int) bool { return x == i }) &&
		marked(all.words, text, func(s string, i int) bool { return s == text(i) }) &&
		marked(all.bodies, func(i int) byte { return byte(i) }, func(b byte, i int) bool { return b == byte(i) }) &&
		marked(all.names, func(i int) api.Attr { return api.Attr{Text: text(i)} }, func(a api.Attr, i int) bool { return a.Text == text(i) }) &&
		marked(all.spaces, func(i int) api.Name { return cn(text(i)) }, func(n api.Name, i int) bool { return oneName(n, cn(text(i))) }) &&
		marked(all.ekus, func(int) []int { return nil }, func(a []int, _ int) bool { return a == nil }) &&
		marked(all.princs, func(int) api.Princ { return api.Princ{Realm: "gone"} }, func(p api.Princ, _ int) bool { return p.Realm == "gone" }) &&
		marked(all.odds, func(int) api.Odd { return odd(true, "gone") }, func(o api.Odd, _ int) bool { return string(o.Body) == "gone" })
}

// scribble writes over all of some bytes, their spare room too.
func scribble(b []byte) {
	for i := range whole(b) {
		whole(b)[i] = 0xee
	}
}

// P3: a certificate that is handed in is not changed, nor its spare room, nor kept; its bytes are new memory.
func TestPutTakesNothing(t *testing.T) {
	body, whole, _ := asTold(all())
	for _, x := range []struct {
		put  func(api.Cert) ([]byte, api.Errno)
		want string
	}{{certs.Put, whole}, {certs.Body, body}} {
		c := roomyCert()
		got, e := x.put(c)
		again, f := x.put(c)
		if e != api.OK || f != api.OK || string(got) != x.want || string(again) != x.want {
			t.Fatalf("%x %v, and then %x %v", got, e, again, f)
		}
		scribble(got)
		if fmt.Sprint(listsOf(c)) != fmt.Sprint(listsOf(roomyCert())) || !one(c, all()) || string(again) != x.want {
			t.Fatal("what was handed in has changed, or the bytes lie in it, or in others")
		}
		if !apart(c) || string(again) != x.want {
			t.Fatal("the certificate lies in its bytes")
		}
		for _, spoil := range []func(c *api.Cert){func(c *api.Cert) { c.Sig = -1 }, func(c *api.Cert) { c.Subject[0].Text = "\xff" }, func(c *api.Cert) { c.Exts.Path = 101 }} {
			c, kept := roomyCert(), roomyCert()
			spoil(&c)
			spoil(&kept)
			if _, e := x.put(c); e != api.ErrCert || fmt.Sprint(listsOf(c)) != fmt.Sprint(listsOf(kept)) {
				t.Fatal("what was refused has changed", e)
			}
		}
	}
}

// P3: so it is of bytes that are handed in, and of the certificate that comes out.
func TestGetTakesNothing(t *testing.T) {
	b := roomy([]byte(allBytes), 0xee)
	unchanged := func() bool { return bytes.Equal(whole(b), whole(roomy([]byte(allBytes), 0xee))) }
	got, e := certs.Get(b)
	again, f := certs.Get(b)
	if e != api.OK || f != api.OK || !one(got, all()) || !one(again, all()) || !unchanged() {
		t.Fatalf("%s %v, and then %s %v", short(got), e, short(again), f)
	}
	if !apart(got) {
		t.Fatal("two lists of the certificate lie in one another")
	}
	if !unchanged() || !one(again, all()) {
		t.Fatal("the certificate lies in its bytes, or in others")
	}
	scribble(b)
	if !one(again, all()) {
		t.Fatal("the bytes lie in their certificate")
	}
	for _, wrong := range []string{with(0, "\x02\x01\xff"), allBytes + "\x00", allBytes[:100], with(5, "\xa3\x02\x30\x00")} {
		b := roomy([]byte(wrong), 0xee)
		if _, e := certs.Get(b); e == api.OK || !bytes.Equal(whole(b), whole(roomy([]byte(wrong), 0xee))) {
			t.Fatal("what was refused has changed", e)
		}
	}
}

func ExamplePut() {
	ann := api.Name{{Oid: []int{2, 5, 4, 3}, Text: "Ann"}}
	c := api.Cert{Serial: 7, Issuer: ann, Subject: ann, Key: 5, Sig: 6}
	b, err := certs.Put(c)
	fmt.Println(len(b), err == api.OK)
	c.Serial = -1
	_, err = certs.Put(c)
	fmt.Println(err)
	// Output:
	// 87 true
	// warder: error 111
}
