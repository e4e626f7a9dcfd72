package chains_test

import (
	"bytes"
	"fmt"
	"math"
	"slices"
	"strings"
	"testing"

	"warder/api"
	"warder/certs"
	"warder/chains"
	"warder/crls"
	"warder/crypto"
	"warder/texts"
	"warder/vault"
)

// drawn tells numbers that look drawn, and are the same each time.
func drawn() func(below int) int {
	state := uint64(1)
	return func(below int) int {
		state = state*6364136223846793005 + 1442695040888963407
		return int(state>>33) % below
	}
}

// cn is a name of one part.
func cn(text string) api.Name { return api.Name{{Oid: []int{2, 5, 4, 3}, Text: text}} }

// at is the name of a chain's place: who makes the certificate there.
func at(place int) api.Name { return cn(fmt.Sprint("Place ", place)) }

// now is the time of most tests: that of the certificates is from and to.
const (
	from = 100
	now  = 150
	to   = 200
)

// link is a certificate of a chain ahead of its being signed: by a key, or as other bytes.
type link struct {
	api.Cert
	by    int
	bytes []byte
}

// list is a list ahead of its being signed.
type list struct {
	api.CRL
	by    int
	bytes []byte
}

// office is a vault with keys, and their public halves.
type office struct {
	v    *vault.Vault
	keys []int
	pubs []int
}

func newOffice(t *testing.T, keys int) office {
	t.Helper()
	o := office{v: vault.New()}
	for n := range keys {
		key, e := crypto.Atom(o.v, int64(n))
		pub, f := crypto.Pub(o.v, key)
		if e != api.OK || f != api.OK {
			t.Fatal(e, f)
		}
		o.keys, o.pubs = append(o.keys, key), append(o.pubs, pub)
	}
	return o
}

// fresh is an office with room for more signatures: the same one, or a new one.
func (o office) fresh(t *testing.T) office {
	t.Helper()
	if o.v.Len() < api.MaxHandles-50 {
		return o
	}
	return newOffice(t, len(o.keys))
}

// anchor is whom the first certificate of a chain is made by.
func (o office) anchor() api.Anchor { return api.Anchor{Name: at(0), Key: o.pubs[0]} }

// links are a chain of so many that holds: each has its own name and key, and all but the last one may make others.
func (o office) links(n int) []link {
	var all []link
	for place := range n {
		c := api.Cert{Serial: int64(place), Issuer: at(place), From: from, To: to, Subject: at(place + 1), Key: o.pubs[place+1]}
		if place < n-1 {
			c.Exts = api.Exts{HasCA: true, CA: true, Path: -1, Usage: api.UseCert}
		}
		all = append(all, link{Cert: c, by: place})
	}
	return all
}

func (o office) cert(t *testing.T, l link) []byte {
	t.Helper()
	if l.bytes != nil {
		return l.bytes
	}
	c := l.Cert
	body, e := certs.Body(c)
	if e != api.OK {
		t.Fatalf("%s: no body: %v", short(c), e)
	}
	if c.Sig, e = crypto.Sign(o.v, o.keys[l.by], body); e != api.OK {
		t.Fatalf("%s: not signed: %v", short(c), e)
	}
	b, e := certs.Put(c)
	if e != api.OK {
		t.Fatalf("%s: no bytes: %v", short(c), e)
	}
	return b
}

func (o office) chain(t *testing.T, links []link) [][]byte {
	t.Helper()
	var all [][]byte
	for _, l := range links {
		all = append(all, o.cert(t, l))
	}
	return all
}

func (o office) crl(t *testing.T, l list) []byte {
	t.Helper()
	if l.bytes != nil {
		return l.bytes
	}
	c := l.CRL
	body, e := crls.Body(c)
	if e != api.OK {
		t.Fatalf("%s: no body: %v", short(c), e)
	}
	if c.Sig, e = crypto.Sign(o.v, o.keys[l.by], body); e != api.OK {
		t.Fatalf("%s: not signed: %v", short(c), e)
	}
	b, e := crls.Put(c)
	if e != api.OK {
		t.Fatalf("%s: no bytes: %v", short(c), e)
	}
	return b
}

func (o office) crls(t *testing.T, lists ...list) [][]byte {
	t.Helper()
	var all [][]byte
	for _, l := range lists {
		all = append(all, o.crl(t, l))
	}
	return all
}

// takesBack is a list of one place's maker that has serials.
func takesBack(place int, serials ...int64) list {
	return list{CRL: api.CRL{Issuer: at(place), This: from, Next: to, Serials: serials}, by: place}
}

// short is how something is told where it is wrong.
func short(x any) string {
	s := fmt.Sprintf("%+v", x)
	return s[:min(len(s), 300)]
}

// same: has each part of a name that of another one, and as many?
func same(a, b api.Name) bool { return len(a) == len(b) && under(a, b) }

func under(a, base api.Name) bool {
	for i, part := range base {
		if i >= len(a) || !slices.Equal(a[i].Oid, part.Oid) || texts.Prep(a[i].Text) != texts.Prep(part.Text) {
			return false
		}
	}
	return true
}

// signs: is a handle that of the one signature of bytes by a public half's key?
func signs(v *vault.Vault, pub int, msg []byte, sig int) bool {
	half, there := v.Term(pub)
	if !there || half.Op != api.TermPub {
		return false
	}
	n, there := v.Find(api.Term{Op: api.TermSign, Data: msg, Kids: half.Kids})
	return there && n == sig
}

// takenBack is IS REVOKED of the section Types.
func takenBack(v *vault.Vault, c api.Cert, key int, now int64, lists [][]byte) bool {
	for _, b := range lists {
		l, e := crls.Get(b)
		body, _ := crls.Body(l)
		if e == api.OK && same(l.Issuer, c.Issuer) && signs(v, key, body, l.Sig) && l.This <= now && now <= l.Next && slices.Contains(l.Serials, c.Serial) {
			return true
		}
	}
	return false
}

// asTold is the section Functions again: each certificate is held against all rules, and the first that is so is told.
func asTold(v *vault.Vault, a api.Anchor, chain [][]byte, now int64, lists [][]byte) (api.Errno, int) {
	if v == nil || len(chain) == 0 {
		return api.ErrArg, -1
	}
	if len(chain) > 8 || len(lists) > 16 {
		return api.ErrTooMany, -1
	}
	key, name, length := a.Key, a.Name, len(chain)
	var permits [][]api.Name
	var excludes []api.Name
	for place, b := range chain {
		c, e := certs.Get(b)
		body, _ := certs.Body(c)
		last, self, critical, allowed := place == len(chain)-1, same(c.Issuer, c.Subject), false, true
		for _, odd := range c.Exts.Odd {
			critical = critical || odd.Crit
		}
		for _, permit := range permits {
			among := false
			for _, base := range permit {
				among = among || under(c.Subject, base)
			}
			allowed = allowed && among
		}
		for _, base := range excludes {
			allowed = allowed && !under(c.Subject, base)
		}
		for _, rule := range []struct {
			is bool
			e  api.Errno
		}{
			{e != api.OK, e},
			{!signs(v, key, body, c.Sig), 141},
			{now < c.From || now > c.To, 142},
			{takenBack(v, c, key, now, lists), 143},
			{!same(c.Issuer, name), 144},
			{(last || !self) && !allowed, 145},
			{critical, 146},
			{!last && !c.Exts.CA, 147},
			{!last && !self && length == 0, 148},
			{!last && c.Exts.Usage != 0 && c.Exts.Usage/32%2 == 0, 149},
		} {
			if rule.is {
				return rule.e, place
			}
		}
		if !self {
			length--
		}
		if c.Exts.Path >= 0 && c.Exts.Path < length {
			length = c.Exts.Path
		}
		if len(c.Exts.Permit) > 0 {
			permits = append(permits, c.Exts.Permit)
		}
		excludes = append(excludes, c.Exts.Exclude...)
		name, key = c.Subject, c.Key
	}
	return api.OK, -1
}

// hold: a chain is as told; what came out is answered.
func hold(t *testing.T, v *vault.Vault, a api.Anchor, chain [][]byte, now int64, lists [][]byte) (api.Errno, int) {
	t.Helper()
	e, place := chains.Validate(v, a, chain, now, lists)
	if want, where := asTold(v, a, chain, now, lists); e != want || place != where {
		t.Errorf("%s at %d with %d lists: %v at %d, not %v at %d", told(chain), now, len(lists), e, place, want, where)
	}
	return e, place
}

// wants: a chain is as told, and as expected.
func wants(t *testing.T, what string, v *vault.Vault, a api.Anchor, chain [][]byte, now int64, lists [][]byte, e api.Errno, place int) {
	t.Helper()
	if got, where := hold(t, v, a, chain, now, lists); got != e || where != place {
		t.Errorf("%s: %v at %d, not %v at %d", what, got, where, e, place)
	}
}

func told(chain [][]byte) string {
	var all []string
	for _, b := range chain[:min(len(chain), 9)] {
		c, e := certs.Get(b)
		all = append(all, short(c)+fmt.Sprint(" ", e))
	}
	return strings.Join(all, "\n")
}

// wanted: links as they stand are expected so, by the office's own anchor, at now.
func (o office) wanted(t *testing.T, what string, links []link, lists [][]byte, e api.Errno, place int) {
	t.Helper()
	wants(t, what, o.v, o.anchor(), o.chain(t, links), now, lists, e, place)
}

// P14.1: chains of each length that hold, and the chapter's examples.
func TestChainsThatHold(t *testing.T) {
	o := newOffice(t, 9)
	for n := 1; n <= 8; n++ {
		o.wanted(t, fmt.Sprint(n, " hold"), o.links(n), nil, api.OK, -1)
		o.wanted(t, fmt.Sprint(n, " hold with lists"), o.links(n), o.crls(t, takesBack(0, 90), takesBack(n-1, 91)), api.OK, -1)
	}
	one := o.chain(t, o.links(1))
	wants(t, "behind To", o.v, o.anchor(), one, to+1, nil, api.ErrChainTime, 0)
	wants(t, "by another key", o.v, api.Anchor{Name: at(0), Key: o.pubs[3]}, one, now, nil, api.ErrChainSig, 0)
	two := o.links(2)
	two[0].Exts = api.Exts{}
	o.wanted(t, "without CA", two, nil, api.ErrChainCA, 0)
}

// P14.1, P2: no vault, no chain, too many certificates or lists, in that order.
func TestArguments(t *testing.T) {
	o := newOffice(t, 9)
	whole := o.chain(t, o.links(8))
	nine := append(slices.Clone(whole), whole[0])
	many := o.crls(t, slices.Repeat([]list{takesBack(0, 90)}, 17)...)
	for _, c := range []struct {
		v     *vault.Vault
		chain [][]byte
		lists [][]byte
		e     api.Errno
	}{
		{nil, whole, nil, api.ErrArg},
		{nil, nil, nil, api.ErrArg},
		{nil, nine, many, api.ErrArg},
		{o.v, nil, nil, api.ErrArg},
		{o.v, [][]byte{}, nil, api.ErrArg},
		{o.v, nil, many, api.ErrArg},
		{o.v, nine, nil, api.ErrTooMany},
		{o.v, whole, many, api.ErrTooMany},
		{o.v, nine, many, api.ErrTooMany},
		{o.v, make([][]byte, 9), nil, api.ErrTooMany},
		{o.v, whole[:1], make([][]byte, 17), api.ErrTooMany},
		{o.v, [][]byte{nil}, make([][]byte, 17), api.ErrTooMany},
		{o.v, whole, many[:16], api.OK},
		{o.v, whole, make([][]byte, 16), api.OK},
	} {
		wants(t, fmt.Sprint(len(c.chain), " with ", len(c.lists)), c.v, o.anchor(), c.chain, now, c.lists, c.e, -1)
	}
	wants(t, "eight of none", o.v, o.anchor(), make([][]byte, 8), now, nil, api.ErrEnd, 0)
}

// fault spoils what a chain has at a place: with the one ahead, where behind is true; only of one that is not the last, where makes is true.
type fault struct {
	e      api.Errno
	behind bool
	makes  bool
	spoil  func(links []link, place int, lists *[]list)
}

// faults are one of each, in the order in which they are told.
func faults() []fault {
	return []fault{
		{api.ErrCert, false, false, func(links []link, place int, _ *[]list) { links[place].bytes = []byte{0x30, 0} }},
		{api.ErrChainSig, false, false, func(links []link, place int, _ *[]list) { links[place].by = len(links) }},
		{api.ErrChainTime, false, false, func(links []link, place int, _ *[]list) { links[place].To = now - 1 }},
		{api.ErrChainRevoked, false, false, func(links []link, place int, lists *[]list) {
			l := takesBack(place, int64(place))
			*lists = append(*lists, l)
			l.Issuer = cn("Somebody")
			*lists = append(*lists, l)
		}},
		{api.ErrChainName, false, false, func(links []link, place int, _ *[]list) { links[place].Issuer = cn("Somebody") }},
		{api.ErrChainSpace, true, false, func(links []link, place int, _ *[]list) {
			links[place-1].Exts.Exclude = append(links[place-1].Exts.Exclude, at(place+1))
		}},
		{api.ErrChainOdd, false, false, func(links []link, place int, _ *[]list) {
			links[place].Exts.Odd = []api.Odd{{Oid: []int{1, 9}, Crit: true}}
		}},
		{api.ErrChainCA, false, true, func(links []link, place int, _ *[]list) {
			links[place].Exts.HasCA, links[place].Exts.CA, links[place].Exts.Path = false, false, 0
		}},
		{api.ErrChainLength, true, true, func(links []link, place int, _ *[]list) { links[place-1].Exts.Path = 0 }},
		{api.ErrChainUsage, false, true, func(links []link, place int, _ *[]list) { links[place].Exts.Usage = api.UseSign }},
	}
}

// can: may a chain of so many have a fault at a place?
func (f fault) can(n, place int) bool {
	return (place > 0 || !f.behind) && (place < n-1 || !f.makes)
}

// P14.1: each fault at each place of chains of each length.
func TestEachFaultAtEachPlace(t *testing.T) {
	o := newOffice(t, 9)
	for n := 1; n <= 8; n++ {
		for place := range n {
			for _, f := range faults() {
				if !f.can(n, place) {
					continue
				}
				var lists []list
				links := o.links(n)
				f.spoil(links, place, &lists)
				o.wanted(t, fmt.Sprint(f.e, " at ", place, " of ", n), links, o.crls(t, lists...), f.e, place)
			}
		}
	}
}

// P14.1, P2: of two faults that of the earlier certificate is told, and of two of one certificate the one that the chapter names first.
func TestFaultsByTwos(t *testing.T) {
	o := newOffice(t, 9)
	const n = 4
	for place := range n {
		for other := range n {
			for first, f := range faults() {
				for second, g := range faults() {
					if !f.can(n, place) || !g.can(n, other) {
						continue
					}
					var lists []list
					links := o.links(n)
					f.spoil(links, place, &lists)
					g.spoil(links, other, &lists)
					e, where := f.e, place
					if other < place || other == place && second < first {
						e, where = g.e, other
					}
					o.wanted(t, fmt.Sprint(f.e, " at ", place, ", ", g.e, " at ", other), links, o.crls(t, lists...), e, where)
				}
			}
		}
	}
}

// P14.1, P2: of all faults at once, and of all from one on.
func TestAllFaults(t *testing.T) {
	o := newOffice(t, 9)
	for from, first := range faults() {
		var lists []list
		links := o.links(3)
		for _, f := range faults()[from:] {
			f.spoil(links, 1, &lists)
		}
		o.wanted(t, fmt.Sprint("all from ", first.e, " on"), links, o.crls(t, lists...), first.e, 1)
	}
}

// P14.1: each error of certs.Get comes out as it is.
func TestErrorsOfBytes(t *testing.T) {
	o := newOffice(t, 9)
	right := o.chain(t, o.links(3))
	body, _ := certs.Body(o.links(3)[0].Cert)
	deep := ""
	for range 33 {
		deep = "\x30" + string(rune(len(deep))) + deep
	}
	for _, c := range []struct {
		b string
		e api.Errno
	}{
		{"", api.ErrEnd}, {"\x1f\x00", api.ErrTag}, {"\x30\x80", api.ErrLength}, {"\x30\x00\x00", api.ErrRest}, {string(right[0]) + "\x00", api.ErrRest}, {"\x31\x06\x02\x01\x05\x02\x01\x04", api.ErrOrder}, {"\x02\x02\x00\x05", api.ErrValue}, {deep, api.ErrDeep},
		{"\x30\x00", api.ErrCert}, {string(body), api.ErrCert}, {string(right[0][:9]), api.ErrEnd}, {string(o.crl(t, takesBack(0, 1))), api.ErrCert},
	} {
		for place := range right {
			chain := slices.Clone(right)
			chain[place] = []byte(c.b)
			wants(t, fmt.Sprintf("%.20x at %d", c.b, place), o.v, o.anchor(), chain, now, nil, c.e, place)
		}
	}
}

// P14.1: who signed what: another key, another body, the right key's other half, a signature that is another term, a handle of nothing.
func TestSignatures(t *testing.T) {
	o := newOffice(t, 9)
	key := o.keys[0]
	c := o.links(1)[0].Cert
	body, _ := certs.Body(c)
	sealed, _ := crypto.Seal(o.v, key, body)
	derived, _ := crypto.Kdf(o.v, key, body)
	hash, _ := crypto.Hash(o.v, body)
	longer, _ := crypto.Sign(o.v, key, append(slices.Clone(body), 0))
	shorter, _ := crypto.Sign(o.v, key, body[:len(body)-1])
	empty, _ := crypto.Sign(o.v, key, nil)
	others, _ := crypto.Sign(o.v, o.keys[1], body)
	right, _ := crypto.Sign(o.v, key, body)
	c.Sig = right
	whole, _ := certs.Put(c)
	ofWhole, _ := crypto.Sign(o.v, key, whole)
	for _, s := range []struct {
		sig int
		e   api.Errno
	}{
		{right, api.OK}, {sealed, api.ErrChainSig}, {derived, api.ErrChainSig}, {hash, api.ErrChainSig}, {longer, api.ErrChainSig}, {shorter, api.ErrChainSig}, {empty, api.ErrChainSig}, {others, api.ErrChainSig}, {ofWhole, api.ErrChainSig},
		{key, api.ErrChainSig}, {o.pubs[0], api.ErrChainSig}, {0, api.ErrChainSig}, {o.v.Len(), api.ErrChainSig}, {1<<48 - 1, api.ErrChainSig},
	} {
		c.Sig = s.sig
		b, e := certs.Put(c)
		if e != api.OK {
			t.Fatal(e)
		}
		place := 0
		if s.e == api.OK {
			place = -1
		}
		wants(t, fmt.Sprint("signature ", s.sig), o.v, o.anchor(), [][]byte{b}, now, nil, s.e, place)
	}
	for _, k := range []int{key, right, sealed, hash, o.pubs[1], o.v.Len(), -1, math.MinInt, math.MaxInt, 1 << 48} {
		wants(t, fmt.Sprint("anchor's key ", k), o.v, api.Anchor{Name: at(0), Key: k}, [][]byte{whole}, now, nil, api.ErrChainSig, 0)
	}
	for _, k := range []int{key, right, sealed, o.pubs[2], 1<<48 - 1} { // that of the one ahead
		two := o.links(2)
		two[0].Key = k
		o.wanted(t, fmt.Sprint("key ", k), two, nil, api.ErrChainSig, 1)
	}
	alone := o.links(1)
	alone[0].Key = 1<<48 - 1 // nobody asks the last one's
	o.wanted(t, "no key", alone, nil, api.OK, -1)
}

// P14.1: the greatest body that can be signed, and one that is greater.
func TestGreatBodies(t *testing.T) {
	o := newOffice(t, 3)
	great := func(n int) []link {
		links := o.links(2)
		c := &links[0].Cert
		for body := 0; body < n; {
			c.Exts.Odd = append(c.Exts.Odd, api.Odd{Oid: []int{1, 9, len(c.Exts.Odd)}, Body: make([]byte, 1024)})
			b, _ := certs.Body(*c)
			body = len(b)
		}
		for last := &c.Exts.Odd[len(c.Exts.Odd)-1]; ; last.Body = last.Body[1:] {
			if b, e := certs.Body(*c); e != api.OK {
				t.Fatal(e)
			} else if len(b) <= n {
				return links
			}
		}
	}
	fits := great(8192)
	if b, _ := certs.Body(fits[0].Cert); len(b) != 8192 {
		t.Fatal(len(b))
	}
	o.wanted(t, "the greatest", fits, nil, api.OK, -1)
	links := great(12000)
	b, e := certs.Put(links[0].Cert)
	if e != api.OK {
		t.Fatal(e)
	}
	links[0].bytes = b
	o.wanted(t, "greater", links, nil, api.ErrChainSig, 0)
}

// P14.1, P14.2: a certificate's time has both its edges, and may be no time at all.
func TestTimes(t *testing.T) {
	o := newOffice(t, 4)
	edges := []int64{math.MinInt64, api.MinTime - 1, api.MinTime, -1, 0, 1, from - 1, from, from + 1, now, to - 1, to, to + 1, api.MaxTime, api.MaxTime + 1, math.MaxInt64}
	for _, span := range [][2]int64{{from, to}, {api.MinTime, api.MaxTime}, {now, now}, {to, from}, {now + 1, now}, {0, 0}, {-1, 0}, {api.MaxTime, api.MinTime}} {
		for place := range 3 {
			links := o.links(3)
			for i := range links {
				links[i].From, links[i].To = api.MinTime, api.MaxTime
			}
			links[place].From, links[place].To = span[0], span[1]
			chain := o.chain(t, links)
			for _, time := range edges {
				want, where := api.OK, -1
				if time < api.MinTime || time > api.MaxTime {
					want, where = api.ErrChainTime, 0
				} else if time < span[0] || time > span[1] {
					want, where = api.ErrChainTime, place
				}
				wants(t, fmt.Sprint(span, " at ", place, ", at ", time), o.v, o.anchor(), chain, time, nil, want, where)
			}
		}
	}
}

// P14.1, IS REVOKED: what of a list is not as it must be leaves a certificate as it was.
func TestRevoked(t *testing.T) {
	o := newOffice(t, 9)
	right := takesBack(1, 0, 1, 2)
	with := func(change func(*list)) list {
		l := right
		l.Serials = slices.Clone(l.Serials)
		change(&l)
		return l
	}
	for i, c := range []struct {
		l       list
		revoked bool
	}{
		{right, true},
		{with(func(l *list) { l.Serials = []int64{1} }), true},
		{with(func(l *list) { l.Serials = []int64{1, 1 << 62} }), true},
		{with(func(l *list) { l.Issuer = cn("  PLACE   1 ") }), true},
		{with(func(l *list) { l.This, l.Next = now, now }), true},
		{with(func(l *list) { l.This, l.Next = api.MinTime, api.MaxTime }), true},
		{with(func(l *list) { l.Serials = nil }), false},
		{with(func(l *list) { l.Serials = []int64{0, 2, 257} }), false},
		{with(func(l *list) { l.Issuer = at(0) }), false},
		{with(func(l *list) { l.Issuer = at(2) }), false},
		{with(func(l *list) { l.Issuer = nil }), false},
		{with(func(l *list) { l.Issuer = append(at(1), at(1)...) }), false},
		{with(func(l *list) { l.This = now + 1 }), false},
		{with(func(l *list) { l.Next = now - 1 }), false},
		{with(func(l *list) { l.This, l.Next = to, from }), false},
		{with(func(l *list) { l.by = 0 }), false},
		{with(func(l *list) { l.by = 2 }), false},
		{with(func(l *list) { l.by = 8 }), false},
		{list{bytes: []byte{}}, false},
		{list{bytes: []byte{0x30, 0}}, false},
		{list{bytes: append(slices.Clone(o.crl(t, right)), 0)}, false},
		{list{bytes: o.crl(t, right)[:20]}, false},
		{list{bytes: o.cert(t, o.links(3)[1])}, false},
	} {
		want, where := api.OK, -1
		if c.revoked {
			want, where = api.ErrChainRevoked, 1
		}
		o.wanted(t, fmt.Sprint("list ", i), o.links(3), o.crls(t, c.l), want, where)
		o.wanted(t, fmt.Sprint("list ", i, " behind others"), o.links(3), o.crls(t, list{bytes: []byte{1}}, takesBack(0, 7), takesBack(1, 7), takesBack(2, 7), c.l), want, where)
		o.wanted(t, fmt.Sprint("list ", i, " ahead of others"), o.links(3), o.crls(t, c.l, list{bytes: []byte{1}}, takesBack(1, 7)), want, where)
		sixteen := slices.Repeat([]list{takesBack(1, 7)}, 16)
		sixteen[15] = c.l
		o.wanted(t, fmt.Sprint("list ", i, " as the last one"), o.links(3), o.crls(t, sixteen...), want, where)
	}
	body, _ := crls.Body(right.CRL)
	for _, sig := range []int{0, o.keys[1], o.pubs[1], o.v.Len(), 1<<48 - 1} {
		l := right.CRL
		l.Sig = sig
		b, e := crls.Put(l)
		if e != api.OK {
			t.Fatal(e)
		}
		o.wanted(t, "a list that nobody signed", o.links(3), [][]byte{b}, api.OK, -1)
	}
	l := right.CRL
	l.Sig, _ = crypto.Sign(o.v, o.keys[1], append(body, 0))
	b, _ := crls.Put(l)
	o.wanted(t, "a list with the signature of another one", o.links(3), [][]byte{b}, api.OK, -1)
}

// P14.1, IS REVOKED: the list's Issuer is held against the certificate's, and not against the name; the key is that of the one ahead.
func TestRevokedByWhom(t *testing.T) {
	o := newOffice(t, 9)
	links := o.links(3)
	links[1].Issuer = cn("Somebody")
	l := takesBack(1, 1)
	o.wanted(t, "a list of the name", links, o.crls(t, l), api.ErrChainName, 1)
	l.Issuer = cn("somebody")
	o.wanted(t, "a list of the certificate's issuer", links, o.crls(t, l), api.ErrChainRevoked, 1)
	o.wanted(t, "for another one", o.links(3), o.crls(t, l), api.OK, -1)
	one := o.chain(t, o.links(1))
	wants(t, "an anchor of another name", o.v, api.Anchor{Name: cn("Somebody"), Key: o.pubs[0]}, one, now, o.crls(t, takesBack(0, 0)), api.ErrChainRevoked, 0)
	wants(t, "an anchor of another name, nothing taken back", o.v, api.Anchor{Name: cn("Somebody"), Key: o.pubs[0]}, one, now, nil, api.ErrChainName, 0)
	same := o.links(3) // the same serial, of two makers
	same[0].Serial, same[1].Serial, same[2].Serial = 5, 5, 5
	for place := range same {
		o.wanted(t, fmt.Sprint("one serial at ", place), same, o.crls(t, takesBack(place, 5)), api.ErrChainRevoked, place)
	}
}

// P14.1: names are held against one another as names.Same does, the anchor's too.
func TestNames(t *testing.T) {
	o := newOffice(t, 4)
	two := o.links(2)
	for _, n := range []struct {
		name api.Name
		same bool
	}{
		{at(1), true}, {cn("place 1"), true}, {cn(" PLACE    1  "), true}, {cn("Place  1"), true}, {cn("Place1"), false}, {cn("Place 2"), false}, {cn("Place 1x"), false}, {cn(""), false}, {nil, false}, {append(at(1), at(1)...), false},
		{api.Name{{Oid: []int{2, 5, 4, 10}, Text: "Place 1"}}, false}, {api.Name{{Oid: []int{2, 5, 4}, Text: "Place 1"}}, false},
	} {
		want, where := api.ErrChainName, 1
		if n.same {
			want, where = api.OK, -1
		}
		two[1].Issuer = n.name
		o.wanted(t, fmt.Sprint("issuer ", n.name), two, nil, want, where)
		if !n.same {
			where = 0
		}
		alone := o.links(1)
		alone[0].Issuer = at(1)
		wants(t, fmt.Sprint("anchor ", n.name), o.v, api.Anchor{Name: n.name, Key: o.pubs[0]}, o.chain(t, alone), now, nil, want, where)
	}
	nobody := o.links(2)
	nobody[0].Subject, nobody[1].Issuer = nil, nil
	o.wanted(t, "a name of no parts", nobody, nil, api.OK, -1)
	for _, n := range []api.Name{cn("\xff"), {{Oid: nil, Text: "Place 0"}}, cn(strings.Repeat("x", 100000)), make(api.Name, 20)} { // no right names
		wants(t, "a wrong anchor", o.v, api.Anchor{Name: n, Key: o.pubs[0]}, o.chain(t, o.links(2)), now, nil, api.ErrChainName, 0)
	}
}

// path is a name of the parts between strokes: none, of nothing.
func path(text string) api.Name {
	var n api.Name
	for _, part := range strings.FieldsFunc(text, func(r rune) bool { return r == '/' }) {
		n = append(n, cn(part)...)
	}
	return n
}

// paths are names with commas between; those of "/" have no parts.
func paths(text string) []api.Name {
	var all []api.Name
	for _, one := range strings.FieldsFunc(text, func(r rune) bool { return r == ',' }) {
		all = append(all, path(one))
	}
	return all
}

// P14.1: the space is narrowed by each one, for all those behind it, and not for itself.
func TestSpace(t *testing.T) {
	o := newOffice(t, 6)
	for _, c := range []struct {
		permits, excludes [3]string
		subjects          [4]string
		e                 api.Errno
		place             int
	}{
		{[3]string{}, [3]string{}, [4]string{"a", "b", "c", "d"}, api.OK, -1},
		{[3]string{"a"}, [3]string{}, [4]string{"x", "a", "a/b", " A /c/d"}, api.OK, -1},
		{[3]string{"a/b"}, [3]string{}, [4]string{"x", "a/b/1", "a/b/2", "a/b/3"}, api.OK, -1}, // the first one's own name is not asked
		{[3]string{"a/b"}, [3]string{}, [4]string{"a/b/1", "a", "a/b/2", "a/b/3"}, api.ErrChainSpace, 1},
		{[3]string{"a/b"}, [3]string{}, [4]string{"a/b/1", "a/b/2", "b", "a/b/3"}, api.ErrChainSpace, 2},
		{[3]string{"a/b"}, [3]string{}, [4]string{"a/b/1", "a/b/2", "a/b/3", "a/c"}, api.ErrChainSpace, 3},
		{[3]string{"", "a"}, [3]string{}, [4]string{"x", "y", "a", "a/b"}, api.OK, -1},
		{[3]string{"", "", "a"}, [3]string{}, [4]string{"x", "y", "z", "a"}, api.OK, -1},
		{[3]string{"", "", "a"}, [3]string{}, [4]string{"a/1", "a/2", "a/3", "b"}, api.ErrChainSpace, 3},
		{[3]string{"x,y,a,z"}, [3]string{}, [4]string{"-", "x", "y/1", "a"}, api.OK, -1},
		{[3]string{"x,a", "a/b,y"}, [3]string{}, [4]string{"-", "x", "a/b", "a/b/c"}, api.OK, -1},
		{[3]string{"x,a", "a/b,y"}, [3]string{}, [4]string{"-", "x", "a/b", "y"}, api.ErrChainSpace, 3},      // of the second list alone
		{[3]string{"x,a", "a/b,y"}, [3]string{}, [4]string{"-", "a", "x", "a/b"}, api.ErrChainSpace, 2},      // of the first list alone
		{[3]string{"a/b", "a", "/"}, [3]string{}, [4]string{"-", "a/b", "a/b/c", "a"}, api.ErrChainSpace, 3}, // a later list widens nothing
		{[3]string{"/"}, [3]string{}, [4]string{"-", "/", "x", "y"}, api.OK, -1},
		{[3]string{}, [3]string{"a/b"}, [4]string{"a/b", "a", "b", "A/B/c"}, api.ErrChainSpace, 3},
		{[3]string{}, [3]string{"a/b"}, [4]string{"a/b", "a", "b", "a/c"}, api.OK, -1},
		{[3]string{}, [3]string{"x", "y"}, [4]string{"-", "1", "2", "x"}, api.ErrChainSpace, 3},
		{[3]string{}, [3]string{"x", "y"}, [4]string{"-", "1", "y", "2"}, api.ErrChainSpace, 2},
		{[3]string{}, [3]string{"x", "y"}, [4]string{"-", "y", "1", "2"}, api.OK, -1},
		{[3]string{}, [3]string{"x", "", "z,y"}, [4]string{"-", "1", "y", "y/1"}, api.ErrChainSpace, 3},
		{[3]string{}, [3]string{"x", "", "z,y"}, [4]string{"-", "1", "y", "2"}, api.OK, -1},
		{[3]string{"a"}, [3]string{"", "a/b"}, [4]string{"-", "a/b", "a/b/c", "a"}, api.ErrChainSpace, 2},
		{[3]string{"a"}, [3]string{"", "a/b"}, [4]string{"-", "a/b", "a", "a/c"}, api.OK, -1},
		{[3]string{}, [3]string{"/"}, [4]string{"-", "a", "b", "c"}, api.ErrChainSpace, 1},
		{[3]string{"", "", "a"}, [3]string{"", "", "a"}, [4]string{"-", "1", "2", "a"}, api.ErrChainSpace, 3},
	} {
		links := o.links(4)
		for i, subject := range c.subjects {
			links[i].Subject = path(subject)
			if i < 3 {
				links[i].Exts.Permit, links[i].Exts.Exclude = paths(c.permits[i]), paths(c.excludes[i])
				links[i+1].Issuer = path(subject)
			}
		}
		o.wanted(t, fmt.Sprint(c), links, nil, c.e, c.place)
		for n := 1; n < 4; n++ { // what is asked of those ahead is not asked of the last one there
			want, place := api.OK, -1
			if c.e != api.OK && c.place < n {
				want, place = c.e, c.place
			}
			o.wanted(t, fmt.Sprint(n, " of ", c), links[:n], nil, want, place)
		}
	}
}

// P14.1, P14.3: who is self-issued is asked for its name as the last one alone; but it narrows the space as others do.
func TestSelfIssuedInASpace(t *testing.T) {
	o := newOffice(t, 6)
	selves := func(own string) []link {
		links := o.links(3)
		links[1].Issuer, links[1].Subject = at(1), cn(own)
		links[2].Issuer = at(1)
		return links
	}
	for _, own := range []string{"Place 1", "place  1", " PLACE 1 "} {
		permitted, excluded := selves(own), selves(own)
		permitted[0].Exts.Permit = []api.Name{at(3)}
		excluded[0].Exts.Exclude = []api.Name{at(1)}
		for _, links := range [][]link{permitted, excluded} {
			o.wanted(t, own, links, nil, api.OK, -1)
			o.wanted(t, own+" alone", links[:2], nil, api.ErrChainSpace, 1)
		}
		narrow := selves(own)
		narrow[1].Exts.Exclude = []api.Name{at(3)}
		o.wanted(t, own+" excludes", narrow, nil, api.ErrChainSpace, 2)
		narrow[1].Exts.Exclude, narrow[1].Exts.Permit = nil, []api.Name{at(1)}
		o.wanted(t, own+" permits", narrow, nil, api.ErrChainSpace, 2)
	}
	near := selves("Place 1x")
	near[2].Issuer = cn("Place 1x")
	near[0].Exts.Exclude = []api.Name{cn("Place 1x")}
	o.wanted(t, "nearly self-issued", near, nil, api.ErrChainSpace, 1)
}

// P14.1: what is odd is asked of each one, wherever it stands among others, and only if it is critical.
func TestOdd(t *testing.T) {
	o := newOffice(t, 6)
	odd := func(last int, crit bool) api.Odd {
		return api.Odd{Oid: []int{1, 9, last}, Crit: crit, Body: []byte("x")}
	}
	for place := range 3 {
		for bits := range 16 {
			links := o.links(3)
			for n := range 4 {
				links[place].Exts.Odd = append(links[place].Exts.Odd, odd(n, bits>>n&1 == 1))
			}
			want, where := api.OK, -1
			if bits > 0 {
				want, where = api.ErrChainOdd, place
			}
			o.wanted(t, fmt.Sprint(bits, " at ", place), links, nil, want, where)
		}
	}
}

// P14.1: what a maker may be: CA, and of a Usage that is none or has UseCert; nobody asks the last one.
func TestMakers(t *testing.T) {
	o := newOffice(t, 6)
	for usage := range 512 {
		for place := range 2 {
			links := o.links(2)
			links[place].Exts.Usage = uint16(usage)
			want, where := api.OK, -1
			if place == 0 && usage != 0 && usage&32 == 0 {
				want, where = api.ErrChainUsage, 0
			}
			o.wanted(t, fmt.Sprint(usage, " at ", place), links, nil, want, where)
		}
	}
	for place := range 3 {
		for _, x := range []api.Exts{{}, {HasCA: true}, {Usage: api.UseCert}, {HasCA: true, Usage: api.UseCert}, {HasCA: true, CA: true, Path: -1}, {HasCA: true, CA: true, Path: 100, Usage: api.UseCert}} {
			links := o.links(3)
			links[place].Exts = x
			want, where := api.OK, -1
			if place < 2 && !x.CA {
				want, where = api.ErrChainCA, place
			}
			o.wanted(t, fmt.Sprint(x, " at ", place), links, nil, want, where)
		}
	}
}

// longest is how many may stand behind the certificate at a place and make others, told from the other end: each Path ahead of them is held against how many stand between.
func tooLong(paths []int, self []bool) int {
	for place := range len(paths) - 1 {
		for ahead := range place {
			between := 0
			for i := ahead + 1; i < place; i++ {
				if !self[i] {
					between++
				}
			}
			if !self[place] && paths[ahead] >= 0 && between >= paths[ahead] {
				return place
			}
		}
	}
	return -1
}

// P14.1: all small Paths in chains of five, self-issued or not: how many stand between is counted without those that are self-issued, and a later Path lengthens nothing.
func TestLengths(t *testing.T) {
	o := newOffice(t, 6)
	for all := range 5 * 5 * 5 * 5 {
		paths := []int{all%5 - 1, all/5%5 - 1, all/25%5 - 1, all/125 - 1, 0}
		for bits := range 16 {
			if all%7 != 0 && bits != 0 && bits != 2 && bits != 12 { // some of them with all
				continue
			}
			links := o.links(5)
			self := make([]bool, 5)
			for i := range 4 {
				links[i].Exts.Path = paths[i]
				if self[i] = bits>>i&1 == 1; self[i] {
					links[i].Subject = links[i].Issuer
					links[i+1].Issuer = links[i].Issuer
				}
			}
			want, where := api.OK, tooLong(paths, self)
			if where >= 0 {
				want = api.ErrChainLength
			}
			o.wanted(t, fmt.Sprint(paths, self), links, nil, want, where)
		}
	}
}

// P14.1: Paths at their edges in the longest chain.
func TestLongChains(t *testing.T) {
	o := newOffice(t, 9)
	for path := -1; path <= 100; path++ {
		for place := range 8 {
			links := o.links(8)
			if place == 7 {
				links[7].Exts.HasCA, links[7].Exts.CA = true, true
			}
			links[place].Exts.Path = path
			want, where := api.OK, -1
			if path >= 0 && place+1+path < 7 {
				want, where = api.ErrChainLength, place+1+path
			}
			o.wanted(t, fmt.Sprint(path, " at ", place), links, nil, want, where)
		}
	}
	selves := o.links(8) // all self-issued: the first one's name is all others', and no Path ends it
	for i := range selves {
		selves[i].Issuer, selves[i].Subject = at(0), at(0)
		if i < 7 {
			selves[i].Exts.Path = 0
		}
	}
	o.wanted(t, "all self-issued", selves, nil, api.OK, -1)
	selves[6].Subject, selves[7].Issuer = at(1), at(1)
	o.wanted(t, "all self-issued but one", selves, nil, api.ErrChainLength, 6)
	selves[5].Exts.Path = 1
	o.wanted(t, "a later Path is longer", selves, nil, api.ErrChainLength, 6)
	for i := range 6 {
		selves[i].Exts.Path = 1
	}
	o.wanted(t, "one may stand between", selves, nil, api.OK, -1)
}

// P14.1: one certificate more than once, and chains that go round.
func TestRounds(t *testing.T) {
	o := newOffice(t, 4)
	root := o.links(2)[0]
	root.Subject, root.Key = at(0), o.pubs[0]
	b := o.cert(t, root)
	wants(t, "eight times the root", o.v, o.anchor(), slices.Repeat([][]byte{b}, 8), now, nil, api.OK, -1)
	there, back := o.links(3)[0], o.links(3)[1]
	back.Subject, back.Key = at(0), o.pubs[0]
	round := o.chain(t, []link{there, back, there, back, there, back, there, back})
	wants(t, "there and back", o.v, o.anchor(), round, now, nil, api.OK, -1)
	wants(t, "back and there", o.v, o.anchor(), round[1:], now, nil, api.ErrChainSig, 0)
	wants(t, "there and there", o.v, o.anchor(), [][]byte{round[0], round[0]}, now, nil, api.ErrChainSig, 1)
}

// draw is a chain and its lists: right as far as nothing is drawn that is not.
func draw(o office, below func(int) int) ([]link, []list) {
	links := o.links(1 + below(5))
	for i := range links {
		l := &links[i]
		last := i == len(links)-1
		l.From, l.To = int64(100+below(45)), int64(155+below(45))
		if below(3) == 0 && !last { // self-issued
			l.Subject = l.Issuer
			links[i+1].Issuer = l.Subject
		}
		if below(3) == 0 {
			l.Subject = append(slices.Clone(l.Issuer), cn(fmt.Sprint(below(3)))...)
			if !last {
				links[i+1].Issuer = l.Subject
			}
		}
		if !last && below(3) == 0 {
			l.Exts.Path = below(4)
		}
		if below(5) == 0 {
			l.Exts.Usage = uint16(below(512))
		}
		if below(6) == 0 {
			l.Exts.Permit = []api.Name{at(below(6)), l.Subject, nil}[below(2):][:1+below(2)]
		}
		if below(6) == 0 {
			l.Exts.Exclude = []api.Name{append(slices.Clone(l.Subject), cn(fmt.Sprint(below(3)))...), at(below(6))}[:1+below(2)]
		}
		if below(4) == 0 {
			l.Exts.Odd = []api.Odd{{Oid: []int{1, 9}}, {Oid: []int{1, 10}, Crit: below(8) == 0}}
		}
		switch below(60) {
		case 0:
			l.by = below(6)
		case 1:
			l.Issuer = at(below(6))
		case 2:
			l.Exts.HasCA, l.Exts.CA, l.Exts.Path = true, false, 0
		case 3:
			l.bytes = []byte{0x30, byte(below(3))}
		}
	}
	for i := 1; i < len(links)-1; i++ { // one that is let be between others, and not as the last one
		if same(links[i].Issuer, links[i].Subject) && below(3) == 0 {
			links[i-1].Exts.Exclude = []api.Name{links[i].Subject}
		}
	}
	var lists []list
	for range below(5) {
		l := takesBack(below(len(links)), int64(below(6)), int64(6+below(3)))
		if below(3) == 0 {
			l.This = int64(100 + below(60))
		}
		if below(3) == 0 {
			l.Next = int64(140 + below(60))
		}
		if below(3) > 0 {
			l.Issuer = links[below(len(links))].Issuer
		}
		if below(3) == 0 {
			l.by = below(6)
		}
		if below(9) == 0 {
			l.bytes = []byte{0x30}
		}
		lists = append(lists, l)
	}
	return links, lists
}

// P14.1: drawn chains, at drawn times, with drawn lists: all errors are among them, and many hold.
func TestDrawnChains(t *testing.T) {
	o := newOffice(t, 7)
	below := drawn()
	count := map[api.Errno]int{}
	for range 6000 {
		o = o.fresh(t)
		links, lists := draw(o, below)
		e, _ := hold(t, o.v, o.anchor(), o.chain(t, links), int64(125+below(50)), o.crls(t, lists...))
		count[e]++
	}
	for _, e := range []api.Errno{api.OK, api.ErrEnd, api.ErrChainSig, api.ErrChainTime, api.ErrChainRevoked, api.ErrChainName, api.ErrChainSpace, api.ErrChainOdd, api.ErrChainCA, api.ErrChainLength, api.ErrChainUsage} {
		if count[e] < 30 {
			t.Error(e, count[e])
		}
	}
	if count[api.OK] < 1000 {
		t.Error(count[api.OK], "hold")
	}
}

// P14.2: a chain that holds without lists holds at all times between its edges, and at none beyond.
func TestTimesOfChainsThatHold(t *testing.T) {
	o := newOffice(t, 7)
	below := drawn()
	held := 0
	for range 1500 {
		o = o.fresh(t)
		links, _ := draw(o, below)
		chain := o.chain(t, links)
		first, last := int64(math.MinInt64), int64(math.MaxInt64)
		for _, l := range links {
			first, last = max(first, l.From), min(last, l.To)
		}
		at := first + int64(below(int(last-first)+1))
		if e, _ := hold(t, o.v, o.anchor(), chain, at, nil); e != api.OK {
			continue
		}
		held++
		for _, time := range []int64{first, first + 1, (first + last) / 2, last - 1, last} {
			if e, place := chains.Validate(o.v, o.anchor(), chain, time, nil); e != api.OK || place != -1 {
				t.Errorf("held at %d, but at %d: %v at %d", at, time, e, place)
			}
		}
		for _, time := range []int64{math.MinInt64, first - 1, last + 1, math.MaxInt64} {
			if e, place := chains.Validate(o.v, o.anchor(), chain, time, nil); e != api.ErrChainTime || place < 0 {
				t.Errorf("from %d to %d, at %d: %v at %d", first, last, time, e, place)
			}
		}
	}
	if held < 500 {
		t.Error(held, "held")
	}
}

// P14.2: a chain that holds with lists holds with any of them, in any order; one that does not may hold with fewer, but for nothing else than being taken back.
func TestFewerLists(t *testing.T) {
	o := newOffice(t, 7)
	below := drawn()
	held, revoked := 0, 0
	for range 700 {
		o = o.fresh(t)
		links, drawn := draw(o, below)
		chain, lists := o.chain(t, links), o.crls(t, drawn...)
		whole, _ := hold(t, o.v, o.anchor(), chain, now, lists)
		for bits := range 1 << len(lists) {
			var fewer [][]byte
			for i, b := range lists {
				if bits>>i&1 == 1 {
					fewer = append(fewer, b)
				}
			}
			slices.Reverse(fewer)
			e, place := hold(t, o.v, o.anchor(), chain, now, fewer)
			switch {
			case whole == api.OK:
				held++
				if e != api.OK || place != -1 {
					t.Errorf("holds with %d lists, but with %b of them: %v at %d", len(lists), bits, e, place)
				}
			case whole == api.ErrChainRevoked && e != whole:
				revoked++
			}
		}
	}
	if held < 500 || revoked < 100 {
		t.Error(held, revoked)
	}
}

// P14.3: of a chain that holds each beginning holds, but where its last one would have to be right as a last one, and is not.
func TestBeginnings(t *testing.T) {
	o := newOffice(t, 7)
	below := drawn()
	held, not := 0, 0
	for range 2000 {
		o = o.fresh(t)
		links, drawn := draw(o, below)
		chain, lists := o.chain(t, links), o.crls(t, drawn...)
		if e, _ := hold(t, o.v, o.anchor(), chain, now, lists); e != api.OK {
			continue
		}
		for n := 1; n < len(chain); n++ {
			e, place := hold(t, o.v, o.anchor(), chain[:n], now, lists)
			if e == api.OK {
				held++
				continue
			}
			not++
			if c := links[n-1].Cert; e != api.ErrChainSpace || place != n-1 || !same(c.Issuer, c.Subject) {
				t.Errorf("%s\nholds, but %d of it: %v at %d", told(chain), n, e, place)
			}
		}
	}
	if held < 500 || not < 3 {
		t.Error(held, not)
	}
}

// P1: vaults that hold nothing or were not made by New, and all else that may come in.
func TestNoPanic(t *testing.T) {
	o := newOffice(t, 9)
	whole := o.chain(t, o.links(8))
	lists := o.crls(t, takesBack(0, 1), takesBack(1, 1))
	for _, v := range []*vault.Vault{{}, vault.New()} {
		for n := range 9 {
			e, place := api.ErrChainSig, 0
			if n == 0 {
				e, place = api.ErrArg, -1
			}
			wants(t, "a vault of nothing", v, o.anchor(), whole[:n], now, lists, e, place)
		}
	}
	for _, key := range []int{math.MinInt, -1, 0, 1, o.v.Len(), 1 << 48, math.MaxInt} {
		for _, time := range []int64{math.MinInt64, -1, 0, now, math.MaxInt64} {
			for _, name := range []api.Name{nil, {}, {{}}, {{Oid: []int{-1, math.MinInt, math.MaxInt}, Text: "\xff\xc3"}}, at(0)} {
				hold(t, o.v, api.Anchor{Name: name, Key: key}, whole, time, lists)
				hold(t, o.v, api.Anchor{Name: name, Key: key}, [][]byte{nil, {}, {0x30}}, time, [][]byte{nil, {}, {0x30}})
			}
		}
	}
	below := drawn()
	for range 3000 { // bytes changed, cut, and put in
		chain := o.chain(t, o.links(3))
		all := append(slices.Clone(chain), lists...)
		b := slices.Clone(all[below(len(all))])
		switch place := below(len(b)); below(3) {
		case 0:
			b[place] = byte(below(256))
		case 1:
			b = b[:place]
		default:
			b = slices.Insert(b, place, byte(below(256)))
		}
		chain[below(3)] = b
		hold(t, o.v, o.anchor(), chain, now, [][]byte{b, lists[0]})
	}
}

// P1: very many certificates and lists, long bytes, deep ones, wide ones.
func TestGreatInputs(t *testing.T) {
	o := newOffice(t, 3)
	right := o.chain(t, o.links(2))
	wants(t, "many certificates", o.v, o.anchor(), slices.Repeat(right, 1<<20), now, nil, api.ErrTooMany, -1)
	wants(t, "many lists", o.v, o.anchor(), right, now, make([][]byte, 1<<21), api.ErrTooMany, -1)
	for _, b := range []string{
		strings.Repeat("\x30\x80", 1<<20), strings.Repeat("\x30\x00", 1<<20), strings.Repeat("\x05\x00", 1<<20), "\x30\x83\xff\xff\xff" + strings.Repeat("\x00", 1<<24), "\x30\x82\xff\xfe" + strings.Repeat("\x05\x00", 32767), "\x04\x82\xff\xff" + strings.Repeat("x", 65535),
	} {
		_, e := certs.Get([]byte(b))
		wants(t, "long bytes", o.v, o.anchor(), [][]byte{right[0], []byte(b)}, now, slices.Repeat([][]byte{[]byte(b)}, 16), e, 1)
		wants(t, "long lists", o.v, o.anchor(), right, now, slices.Repeat([][]byte{[]byte(b)}, 16), api.OK, -1)
	}
}

// P1: the greatest lists, and certificates with as much in their extensions as can be signed.
func TestGreatestThatHold(t *testing.T) {
	o := newOffice(t, 9)
	long := func(n int) api.Name { return slices.Repeat(cn(strings.Repeat("x", n)), 8) }
	links := o.links(8)
	for i := range links {
		c := &links[i].Cert
		c.Subject, c.Issuer = append(long(64)[:7], cn(fmt.Sprint(i+1))...), append(long(64)[:7], cn(fmt.Sprint(i))...)
		c.Exts.Permit = slices.Repeat([]api.Name{long(64)[:3]}, 16)
		c.Exts.Exclude = slices.Repeat([]api.Name{append(long(64)[:3], cn("y")...)}, 11)
		if b, _ := certs.Body(*c); len(b) > 8192 || len(b) < 7000 {
			t.Fatal(len(b))
		}
	}
	a := api.Anchor{Name: links[0].Issuer, Key: o.pubs[0]}
	var lists []list
	for n := range 16 {
		l := takesBack(n % 8)
		l.Issuer = links[n%8].Issuer
		for serial := range 256 {
			l.Serials = append(l.Serials, int64(100+serial))
		}
		lists = append(lists, l)
	}
	chain := o.chain(t, links)
	wants(t, "the greatest", o.v, a, chain, now, o.crls(t, lists...), api.OK, -1)
	lists[15].Serials[0] = 7
	wants(t, "the last one taken back", o.v, a, chain, now, o.crls(t, lists...), api.ErrChainRevoked, 7)
	links[6].Exts.Exclude[4] = links[7].Subject
	wants(t, "the last one excluded", o.v, a, o.chain(t, links), now, nil, api.ErrChainSpace, 7)
}

// roomy are the same bytes, with spare room behind each list of them.
func roomy(lists [][]byte) [][]byte {
	var all [][]byte
	for _, b := range lists {
		all = append(all, append(make([]byte, 0, len(b)+40), b...))
	}
	return append(make([][]byte, 0, len(all)+3), all...)
}

// whole are all bytes of lists, those in their spare room too.
func whole(lists [][]byte) string {
	var all [][]byte
	for _, b := range lists[:cap(lists)] {
		all = append(all, b[:cap(b)])
	}
	return string(bytes.Join(all, []byte("|"))) + fmt.Sprint(len(all))
}

// P3: nothing that is handed in is changed, nor its spare room; no term is put into the vault; and the same comes out again, whatever was asked between.
func TestNothingIsChanged(t *testing.T) {
	o := newOffice(t, 7)
	below := drawn()
	a := o.anchor()
	a.Name = append(make(api.Name, 0, 9), a.Name...)
	type question struct {
		chain, lists [][]byte
		e            api.Errno
		place        int
	}
	var asked []question
	for range 300 {
		links, drawn := draw(o, below)
		q := question{chain: roomy(o.chain(t, links)), lists: roomy(o.crls(t, drawn...))}
		chain, lists, terms, name := whole(q.chain), whole(q.lists), o.v.Len(), fmt.Sprint(a.Name[:cap(a.Name)])
		q.e, q.place = hold(t, o.v, a, q.chain, now, q.lists)
		if whole(q.chain) != chain || whole(q.lists) != lists || o.v.Len() != terms || fmt.Sprint(a.Name[:cap(a.Name)]) != name {
			t.Fatal("changed by", told(q.chain))
		}
		asked = append(asked, q)
	}
	for _, q := range asked {
		if e, place := chains.Validate(o.v, a, q.chain, now, q.lists); e != q.e || place != q.place {
			t.Errorf("%s: %v at %d, and then %v at %d", told(q.chain), q.e, q.place, e, place)
		}
	}
}

// P3: one list that is handed in for both is read as both.
func TestOneListForBoth(t *testing.T) {
	o := newOffice(t, 4)
	both := append(o.chain(t, o.links(2)), o.crl(t, takesBack(1, 1)))
	wants(t, "as lists", o.v, o.anchor(), both[:2], now, both, api.ErrChainRevoked, 1)
	wants(t, "as both", o.v, o.anchor(), both, now, both, api.ErrChainRevoked, 1)
	wants(t, "as a chain", o.v, o.anchor(), both[:2], now, both[:2], api.OK, -1)
}

func ExampleValidate() {
	v := vault.New()
	key, _ := crypto.Atom(v, 1)
	pub, _ := crypto.Pub(v, key)
	leaf := api.Cert{Serial: 1, Issuer: cn("Root"), From: 0, To: 86400, Subject: cn("Ann"), Key: pub}
	body, _ := certs.Body(leaf)
	leaf.Sig, _ = crypto.Sign(v, key, body)
	b, _ := certs.Put(leaf)
	root := api.Anchor{Name: cn("root"), Key: pub}
	fmt.Println(chains.Validate(v, root, [][]byte{b}, 86400, nil))
	fmt.Println(chains.Validate(v, root, [][]byte{b}, 86401, nil))
	fmt.Println(chains.Validate(v, root, [][]byte{b, b}, 0, nil))
	// Output:
	// warder: error 0 -1
	// warder: error 142 0
	// warder: error 147 0
}
