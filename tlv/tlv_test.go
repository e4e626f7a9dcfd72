package tlv_test

import (
	"bytes"
	"fmt"
	"math"
	"testing"

	"warder/api"
	"warder/tlv"
)

// edges are the numbers of bytes of a body at which its length is written otherwise, and those about them.
var edges = []int{0, 1, 2, 0x7e, 0x7f, 0x80, 0x81, 0xfe, 0xff, 0x100, 0x101, 0x7fff, 0x8000, 0xfffe, 0xffff}

// lengthOf is a length as the chapter's section Types writes it.
func lengthOf(n int) []byte {
	if n < 0x80 {
		return []byte{byte(n)}
	}
	if n < 0x100 {
		return []byte{0x81, byte(n)}
	}
	return []byte{0x82, byte(n / 0x100), byte(n % 0x100)}
}

// bodyOf are n bytes of which no two beginnings are alike by chance.
func bodyOf(n int) []byte {
	b := make([]byte, n)
	for i := range b {
		b[i] = byte(i*7 + i>>8 + 1)
	}
	return b
}

func right(tag byte) bool { return tag%0x20 != 0x1f }

// P1.1, T1: every tag that may be, at every edge of the length.
func TestPutWrites(t *testing.T) {
	for tag := range 0x100 {
		for _, n := range edges {
			body := bodyOf(n)
			b, e := tlv.Put(byte(tag), body)
			if !right(byte(tag)) {
				if b != nil || e != api.ErrTag {
					t.Fatalf("tag %x, %d bytes: %d bytes, %v", tag, n, len(b), e)
				}
				continue
			}
			want := append(append([]byte{byte(tag)}, lengthOf(n)...), body...)
			if e != api.OK || !bytes.Equal(b, want) {
				t.Fatalf("tag %x, %d bytes: %d bytes, %v", tag, n, len(b), e)
			}
		}
	}
}

// P1.1, T1: the chapter's example, and what stands in no table.
func TestPutExamples(t *testing.T) {
	if b, e := tlv.Put(4, []byte{0x61, 0x62}); e != api.OK || !bytes.Equal(b, []byte{4, 2, 0x61, 0x62}) {
		t.Errorf("%x %v", b, e)
	}
	if b, e := tlv.Put(5, nil); e != api.OK || !bytes.Equal(b, []byte{5, 0}) {
		t.Errorf("%x %v", b, e)
	}
}

// P1.1, T1, P2: too many bytes are refused, whatever the tag; but a tag that may not be is named first.
func TestPutRefuses(t *testing.T) {
	for _, n := range []int{api.MaxBody + 1, api.MaxBody + 2, 1<<17 + 5, 1 << 20} {
		for tag := range 0x100 {
			want := api.ErrTooMany
			if !right(byte(tag)) {
				want = api.ErrTag
			}
			if b, e := tlv.Put(byte(tag), make([]byte, n)); len(b) != 0 || e != want {
				t.Fatalf("tag %x, %d bytes: %d bytes, %v", tag, n, len(b), e)
			}
		}
	}
}

// P1.1, T2: what is wrong, in the order in which the chapter names it.
func TestHeadRefuses(t *testing.T) {
	cases := []struct {
		b    string
		at   int
		want api.Errno
	}{
		{"", -1, api.ErrArg},
		{"", 1, api.ErrArg},
		{"\x05\x00", -1, api.ErrArg},
		{"\x05\x00", 3, api.ErrArg},
		{"\x05\x00", math.MinInt, api.ErrArg},
		{"\x05\x00", math.MaxInt, api.ErrArg},
		{"", 0, api.ErrEnd},
		{"\x05\x00", 2, api.ErrEnd},
		{"\x1f", 0, api.ErrTag},
		{"\x3f", 0, api.ErrTag},
		{"\xff", 0, api.ErrTag},
		{"\x1f\x80", 0, api.ErrTag},
		{"\x1f\x05\x00", 0, api.ErrTag},
		{"\x05", 0, api.ErrEnd},
		{"\x05\x00", 1, api.ErrEnd},
		{"\x05\x80", 0, api.ErrLength},
		{"\x05\x80\x00\x00", 0, api.ErrLength},
		{"\x05\x83", 0, api.ErrLength},
		{"\x05\x83\x01\x00\x00", 0, api.ErrLength},
		{"\x05\x84\x00\x00\x00\x00", 0, api.ErrLength},
		{"\x05\xff", 0, api.ErrLength},
		{"\x05\x81", 0, api.ErrEnd},
		{"\x05\x82", 0, api.ErrEnd},
		{"\x05\x82\x00", 0, api.ErrEnd}, // not whole, though it could not be as short as it may be
		{"\x05\x82\x01", 0, api.ErrEnd},
		{"\x05\x81\x00", 0, api.ErrLength},
		{"\x05\x81\x02\x61\x62", 0, api.ErrLength},
		{"\x05\x81\x7f", 0, api.ErrLength}, // the body is not whole either
		{"\x05\x82\x00\x00", 0, api.ErrLength},
		{"\x05\x82\x00\x7f", 0, api.ErrLength},
		{"\x05\x82\x00\x80", 0, api.ErrLength},
		{"\x05\x82\x00\xff", 0, api.ErrLength},
		{"\x05\x01", 0, api.ErrEnd},
		{"\x04\x02\x61", 0, api.ErrEnd},
		{"\x05\x7f", 0, api.ErrEnd},
		{"\x05\x81\x80", 0, api.ErrEnd},
		{"\x05\x82\x01\x00", 0, api.ErrEnd},
		{"\x05\x82\xff\xff", 0, api.ErrEnd},
		{"\x05\x00\x04\x02\x61", 2, api.ErrEnd},
	}
	for _, c := range cases {
		tag, from, to, e := tlv.Head([]byte(c.b), c.at)
		if tag != 0 || from != 0 || to != 0 || e != c.want {
			t.Errorf("%x at %d: %x %d %d %v, not %v", c.b, c.at, tag, from, to, e, c.want)
		}
	}
}

// P1.1, T2: the places are told from the beginning of all bytes on, and what stands behind is not looked at.
func TestHeadTells(t *testing.T) {
	for _, c := range []struct {
		b        string
		at       int
		tag      byte
		from, to int
	}{
		{"\x05\x00", 0, 5, 2, 2},
		{"\x05\x00\x1f", 0, 5, 2, 2},
		{"\x1f\x1f\x04\x02ab\x1f", 2, 4, 4, 6},
		{"\x30\x03\x02\x01\x05", 0, 0x30, 2, 5},
		{"\x30\x03\x02\x01\x05", 2, 2, 4, 5},
		{"\x00\x00", 0, 0, 2, 2},
		{"\xe0\x00", 0, 0xe0, 2, 2},
		{"\x1e\x01\xff", 0, 0x1e, 2, 3},
	} {
		if tag, from, to, e := tlv.Head([]byte(c.b), c.at); tag != c.tag || from != c.from || to != c.to || e != api.OK {
			t.Errorf("%x at %d: %x %d %d %v", c.b, c.at, tag, from, to, e)
		}
	}
}

// P1.2: Head of Put, whatever stands ahead and behind, tells the tag and the body.
func TestThereAndBack(t *testing.T) {
	for _, ahead := range []string{"", "\x00", "\x30\x82", "\x1f\x80\xff"} {
		for _, behind := range []string{"", "\x00", "\x82\x01\x00", "\x1f"} {
			for tag := range 0x100 {
				if !right(byte(tag)) {
					continue
				}
				for _, n := range edges {
					thereAndBack(t, ahead, behind, byte(tag), bodyOf(n))
				}
			}
		}
	}
}

func thereAndBack(t *testing.T, ahead, behind string, tag byte, body []byte) {
	t.Helper()
	put, e := tlv.Put(tag, body)
	if e != api.OK {
		t.Fatal(e)
	}
	b := []byte(ahead + string(put) + behind)
	got, from, to, e := tlv.Head(b, len(ahead))
	if e != api.OK || got != tag || !bytes.Equal(b[from:to], body) || to != len(ahead)+len(put) {
		t.Fatalf("%x, tag %x, %d bytes, %x: %x %d %d %v", ahead, tag, len(body), behind, got, from, to, e)
	}
}

// P1.2: there and back for each number of bytes that a body may have.
func TestThereAndBackOfAllSizes(t *testing.T) {
	body := bodyOf(api.MaxBody)
	for n := range api.MaxBody + 1 {
		b, e := tlv.Put(4, body[:n])
		if e != api.OK || !bytes.Equal(b[:len(b)-n], append([]byte{4}, lengthOf(n)...)) {
			t.Fatal(n, len(b), e)
		}
		if tag, from, to, e := tlv.Head(b, 0); tag != 4 || from != len(b)-n || to != len(b) || e != api.OK {
			t.Fatal(n, tag, from, to, e)
		}
	}
}

// P1.1, P1.2: a value is nothing till its last byte is there.
func TestHeadOfBeginnings(t *testing.T) {
	for _, n := range []int{0, 1, 0x7f, 0x80, 0xff, 0x100, 0x101} {
		b, _ := tlv.Put(4, bodyOf(n))
		for size := range len(b) {
			if tag, from, to, e := tlv.Head(b[:size], 0); tag != 0 || from != 0 || to != 0 || e != api.ErrEnd {
				t.Fatal(n, size, tag, from, to, e)
			}
		}
	}
}

// P1.1, T2: all lengths of two bytes, of three bytes, and all first bytes of one.
func TestHeadOfAllLengths(t *testing.T) {
	b := make([]byte, 4+api.MaxBody)
	b[0] = 4
	for first := range 0x100 {
		b[1] = byte(first)
		switch {
		case first < 0x80:
			holdLength(t, b, 2, first, true)
		case first == 0x80 || first > 0x82:
			holdLength(t, b, 2, first, false)
		}
	}
	b[1] = 0x81
	for n := range 0x100 {
		b[2] = byte(n)
		holdLength(t, b, 3, n, n >= 0x80)
	}
	b[1] = 0x82
	for n := range 0x10000 {
		b[2], b[3] = byte(n>>8), byte(n)
		holdLength(t, b, 4, n, n >= 0x100)
	}
}

// holdLength: does a head of so many bytes tell a body of n bytes, if it is whole, and ErrEnd, if one is missing?
func holdLength(t *testing.T, b []byte, head, n int, is bool) {
	t.Helper()
	tag, from, to, e := tlv.Head(b, 0)
	if !is {
		if tag != 0 || from != 0 || to != 0 || e != api.ErrLength {
			t.Fatalf("%x: %x %d %d %v", b[:4], tag, from, to, e)
		}
		return
	}
	if tag != 4 || from != head || to != head+n || e != api.OK {
		t.Fatalf("%x: %x %d %d %v", b[:4], tag, from, to, e)
	}
	if _, _, _, e := tlv.Head(b[:head+n], 0); e != api.OK {
		t.Fatalf("%x: %v", b[:4], e)
	}
	if _, _, _, e := tlv.Head(b[:head+n-1], 0); e != api.ErrEnd {
		t.Fatalf("%x: %v", b[:4], e)
	}
}

// asWritten is T2, told word by word.
func asWritten(b []byte, at int) (byte, int, int, api.Errno) {
	if at < 0 || at > len(b) {
		return 0, 0, 0, api.ErrArg
	}
	b = b[at:]
	if len(b) < 1 {
		return 0, 0, 0, api.ErrEnd
	}
	if !right(b[0]) {
		return 0, 0, 0, api.ErrTag
	}
	if len(b) < 2 {
		return 0, 0, 0, api.ErrEnd
	}
	if b[1] == 0x80 || b[1] > 0x82 {
		return 0, 0, 0, api.ErrLength
	}
	head, n := 2, int(b[1])
	switch b[1] {
	case 0x81:
		if len(b) < 3 {
			return 0, 0, 0, api.ErrEnd
		}
		head, n = 3, int(b[2])
	case 0x82:
		if len(b) < 4 {
			return 0, 0, 0, api.ErrEnd
		}
		head, n = 4, int(b[2])*0x100+int(b[3])
	}
	if head == 3 && n < 0x80 || head == 4 && n < 0x100 {
		return 0, 0, 0, api.ErrLength
	}
	if len(b) < head+n {
		return 0, 0, 0, api.ErrEnd
	}
	return b[0], at + head, at + head + n, api.OK
}

// P1.1, P1.2, P1: all short strings of the bytes that matter, from each place on, are as the chapter says; and what Head tells, Put writes as it stood.
func TestAllShortStrings(t *testing.T) {
	letters := []byte{0x00, 0x01, 0x02, 0x03, 0x1f, 0x30, 0x7f, 0x80, 0x81, 0x82, 0x83, 0xff}
	for n := range 6 {
		b := make([]byte, n)
		count := 1
		for range n {
			count *= len(letters)
		}
		for i := range count {
			for j, rest := 0, i; j < n; j, rest = j+1, rest/len(letters) {
				b[j] = letters[rest%len(letters)]
			}
			for at := -1; at <= n+1; at++ {
				holdHead(t, b, at)
			}
		}
	}
}

// P1.1, P1.2, P1: so are longer strings, most of which begin with a head that may be.
func TestLongStrings(t *testing.T) {
	state := uint64(1)
	next := func(below int) int { // numbers that look drawn, and are the same each time
		state = state*6364136223846793005 + 1442695040888963407
		return int(state>>33) % below
	}
	for range 200000 {
		b := make([]byte, next(700))
		for i := range b {
			b[i] = byte(next(0x100))
		}
		at := next(len(b)+3) - 1
		if at >= 0 && at+3 < len(b) {
			copy(b[at+1:], [][]byte{{0x81}, {0x82, byte(next(3))}, {byte(next(0x80))}}[next(3)])
		}
		holdHead(t, b, at)
	}
}

func holdHead(t *testing.T, b []byte, at int) {
	t.Helper()
	tag, from, to, e := tlv.Head(b, at)
	wantTag, wantFrom, wantTo, want := asWritten(b, at)
	if tag != wantTag || from != wantFrom || to != wantTo || e != want {
		t.Fatalf("%x at %d: %x %d %d %v, not %x %d %d %v", b, at, tag, from, to, e, wantTag, wantFrom, wantTo, want)
	}
	if e != api.OK {
		return
	}
	if put, e := tlv.Put(tag, b[from:to]); e != api.OK || !bytes.Equal(put, b[at:to]) {
		t.Fatalf("%x at %d: %x %v", b, at, put, e)
	}
}

// P3: a body is not changed, nor its spare room; what comes out is new memory, its spare room too.
func TestPutSharesNothing(t *testing.T) {
	for _, n := range edges {
		all := bodyOf(n + 9)
		body := all[4 : 4+n : n+9]
		b, e := tlv.Put(4, body)
		if e != api.OK {
			t.Fatal(e)
		}
		was := string(b)
		if !bytes.Equal(all, bodyOf(n+9)) {
			t.Fatal("changed what was handed in", n)
		}
		for i := range all {
			all[i] ^= 0xff
		}
		if string(b) != was {
			t.Fatal("shares what was handed in", n)
		}
		again, _ := tlv.Put(4, bytes.Clone(body))
		kept := string(again)
		for i := range b[:cap(b)] {
			b[:cap(b)][i] ^= 0xff
		}
		if string(again) != kept {
			t.Fatal("shares what came out ahead", n)
		}
		for i := range all {
			all[i] ^= 0xff
		}
		if !bytes.Equal(all, bodyOf(n+9)) {
			t.Fatal("gives out what was handed in", n)
		}
	}
}

// P3: Head changes nothing, and looks at nothing behind the length of what is handed in, be there room or not.
func TestHeadLooksNoFurther(t *testing.T) {
	all := []byte("\x04\x02ab\x00\x00")
	was := string(all)
	for n := range 4 {
		if _, _, _, e := tlv.Head(all[:n], 0); e != api.ErrEnd {
			t.Error(n, e)
		}
	}
	if _, _, to, e := tlv.Head(all[:4], 0); to != 4 || e != api.OK {
		t.Error(to, e)
	}
	if _, _, _, e := tlv.Head(all[:4], 5); e != api.ErrArg {
		t.Error(e)
	}
	if string(all) != was {
		t.Error("changed what was handed in")
	}
}

func ExamplePut() {
	b, err := tlv.Put(api.TagInt, []byte{5})
	b, err = tlv.Put(api.TagSeq, b)
	fmt.Printf("% x %d\n", b, err)
	// Output: 30 03 02 01 05 0
}

func ExampleHead() {
	b := []byte{0x30, 0x03, 0x02, 0x01, 0x05}
	tag, from, to, err := tlv.Head(b, 0)
	fmt.Printf("%x % x %d\n", tag, b[from:to], err)
	_, _, _, err = tlv.Head([]byte{0x30, 0x81, 0x03, 0x02, 0x01, 0x05}, 0)
	fmt.Println(err)
	// Output:
	// 30 02 01 05 0
	// warder: error 13
}
