package ints_test

import (
	"bytes"
	"fmt"
	"math"
	"math/big"
	"slices"
	"strconv"
	"strings"
	"testing"

	"warder/api"
	"warder/ints"
)

// drawn tells numbers that look drawn, and are the same each time.
func drawn() func(below int) int {
	state := uint64(1)
	return func(below int) int {
		state = state*6364136223846793005 + 1442695040888963407
		return int(state>>33) % below
	}
}

// ofDigits are the bytes of a text of binary digits, eight of them each.
func ofDigits(text string) []byte {
	var b []byte
	for ; text != ""; text = text[8:] {
		n, err := strconv.ParseUint(text[:8], 2, 8)
		if err != nil {
			panic(err)
		}
		b = append(b, byte(n))
	}
	return b
}

// digits are the binary digits of bytes.
func digits(b []byte) string {
	var text strings.Builder
	for _, x := range b {
		text.WriteString(fmt.Sprintf("%08b", x))
	}
	return text.String()
}

// allStrings does it with each string of at most so many of these bytes.
func allStrings(letters []byte, most int, do func(b []byte)) {
	var b []byte
	var deeper func()
	deeper = func() {
		do(b)
		if len(b) == most {
			return
		}
		for _, x := range letters {
			b = append(b, x)
			deeper()
			b = b[:len(b)-1]
		}
	}
	deeper()
}

func allBytes() []byte {
	b := make([]byte, 0x100)
	for i := range b {
		b[i] = byte(i)
	}
	return b
}

// numberAsTold is I1's Int, by the section Types: as few bytes as it may have are those whose first nine bits are not all alike.
func numberAsTold(body []byte) (int64, api.Errno) {
	if len(body) < 1 || len(body) > 8 {
		return 0, api.ErrInt
	}
	text := digits(body)
	if len(body) > 1 && (text[:9] == "000000000" || text[:9] == "111111111") {
		return 0, api.ErrInt
	}
	n := new(big.Int).SetBytes(body)
	if text[0] == '1' {
		n.Sub(n, new(big.Int).Lsh(big.NewInt(1), uint(8*len(body))))
	}
	return n.Int64(), api.OK
}

func holdNumberBody(t *testing.T, body []byte) {
	t.Helper()
	n, e := ints.Int(body)
	want, wrong := numberAsTold(body)
	if n != want || e != wrong {
		t.Fatalf("%x: %d %v, not %d %v", body, n, e, want, wrong)
	}
	if e != api.OK {
		return
	}
	if b := ints.PutInt(n); !bytes.Equal(b, body) {
		t.Fatalf("%x: %d is written %x", body, n, b)
	}
}

// holdNumber: there and back, and as few bytes as there may be: of one less the number would be another one.
func holdNumber(t *testing.T, n int64) {
	t.Helper()
	b := ints.PutInt(n)
	if told, e := numberAsTold(b); told != n || e != api.OK {
		t.Fatalf("%d: %x", n, b)
	}
	if told, e := ints.Int(b); told != n || e != api.OK {
		t.Fatalf("%d: %x is read %d %v", n, b, told, e)
	}
}

// P2.1, I1: the chapter's examples, and the ends of each number of bytes.
func TestNumbersAreWritten(t *testing.T) {
	for _, c := range []struct {
		n    int64
		want string
	}{
		{0, "\x00"},
		{1, "\x01"},
		{5, "\x05"},
		{127, "\x7f"},
		{128, "\x00\x80"},
		{129, "\x00\x81"},
		{255, "\x00\xff"},
		{256, "\x01\x00"},
		{0x7fff, "\x7f\xff"},
		{0x8000, "\x00\x80\x00"},
		{0x7fffff, "\x7f\xff\xff"},
		{0x800000, "\x00\x80\x00\x00"},
		{0x7fffffff, "\x7f\xff\xff\xff"},
		{0x80000000, "\x00\x80\x00\x00\x00"},
		{0x123456789abcde, "\x12\x34\x56\x78\x9a\xbc\xde"},
		{1<<55 - 1, "\x7f\xff\xff\xff\xff\xff\xff"},
		{1 << 55, "\x00\x80\x00\x00\x00\x00\x00\x00"},
		{math.MaxInt64, "\x7f\xff\xff\xff\xff\xff\xff\xff"},
		{-1, "\xff"},
		{-2, "\xfe"},
		{-128, "\x80"},
		{-129, "\xff\x7f"},
		{-256, "\xff\x00"},
		{-257, "\xfe\xff"},
		{-0x8000, "\x80\x00"},
		{-0x8001, "\xff\x7f\xff"},
		{-1 << 55, "\x80\x00\x00\x00\x00\x00\x00"},
		{-1<<55 - 1, "\xff\x7f\xff\xff\xff\xff\xff\xff"},
		{math.MinInt64, "\x80\x00\x00\x00\x00\x00\x00\x00"},
	} {
		if b := ints.PutInt(c.n); string(b) != c.want {
			t.Errorf("%d: %x, not %x", c.n, b, c.want)
		}
		if n, e := ints.Int([]byte(c.want)); n != c.n || e != api.OK {
			t.Errorf("%x: %d %v, not %d", c.want, n, e, c.n)
		}
	}
}

// P2.1, I1, P2: no bytes, more than eight, and more than the number needs.
func TestNumbersAreRefused(t *testing.T) {
	for _, body := range []string{
		"",
		"\x00\x00",
		"\x00\x01",
		"\x00\x7f",
		"\xff\x80",
		"\xff\xff",
		"\x00\x00\x80",
		"\x00\x7f\xff",
		"\xff\xff\x7f",
		"\xff\x80\x00",
		"\x00\x00\x00\x00\x00\x00\x00\x00",
		"\xff\xff\xff\xff\xff\xff\xff\xff",
		"\x00\x80\x00\x00\x00\x00\x00\x00\x00",
		"\x00\xff\xff\xff\xff\xff\xff\xff\xff",
		"\xff\x7f\xff\xff\xff\xff\xff\xff\xff",
		"\x01\x00\x00\x00\x00\x00\x00\x00\x00",
		"123456789",
		"\x12\x34\x56\x78\x9a\xbc\xde\xf0\x00",
		strings.Repeat("\x00", 16),
		strings.Repeat("\x12", 1<<20),
	} {
		if n, e := ints.Int([]byte(body)); n != 0 || e != api.ErrInt {
			t.Errorf("%.20x: %d %v", body, n, e)
		}
	}
	if n, e := ints.Int(nil); n != 0 || e != api.ErrInt {
		t.Error(n, e)
	}
}

// P2.1, P2.2, P1: all short bodies, those of the bytes that matter, and others of all lengths.
func TestNumbersOfAllBodies(t *testing.T) {
	allStrings(allBytes(), 2, func(b []byte) { holdNumberBody(t, b) })
	allStrings([]byte{0x00, 0x01, 0x7f, 0x80, 0xff}, 7, func(b []byte) { holdNumberBody(t, b) })
	next := drawn()
	for range 200000 {
		b := make([]byte, next(11))
		for i := range b {
			b[i] = []byte{byte(next(0x100)), 0x00, 0xff}[max(0, next(6)-3)]
		}
		holdNumberBody(t, b)
	}
}

// P2.2: numbers about each power of two, and others, there and back.
func TestNumbersThereAndBack(t *testing.T) {
	for bit := range 64 {
		for near := int64(-300); near <= 300; near++ {
			holdNumber(t, 1<<bit+near)
			holdNumber(t, -1<<bit+near)
		}
	}
	next := drawn()
	for range 200000 {
		n := int64(next(1<<30))<<34 ^ int64(next(1<<30))<<8 ^ int64(next(1<<10))
		holdNumber(t, n>>next(64))
	}
}

// objectAsTold: is it an object, by the section Types?
func objectAsTold(arcs []int) bool {
	if len(arcs) < 2 || len(arcs) > 16 {
		return false
	}
	for _, arc := range arcs {
		if arc < 0 || arc > 1<<28-1 {
			return false
		}
	}
	switch arcs[0] {
	case 0, 1:
		return arcs[1] < 40
	case 2:
		return 80+arcs[1] <= 1<<28-1
	}
	return false
}

// digitsAsTold is a number by its digits of 7 bits, told by its binary digits.
func digitsAsTold(n int) string {
	text := strconv.FormatInt(int64(n), 2)
	text = strings.Repeat("0", (7-len(text)%7)%7) + text
	var all string
	for ; len(text) > 7; text = text[7:] {
		all += "1" + text[:7]
	}
	return all + "0" + text
}

// objectBody is an object's body, by the section Types.
func objectBody(arcs []int) []byte {
	all := digitsAsTold(40*arcs[0] + arcs[1])
	for _, arc := range arcs[2:] {
		all += digitsAsTold(arc)
	}
	return ofDigits(all)
}

// objectOfBody is I2's OID: each number by itself, cut off behind its last digit.
func objectOfBody(body []byte) ([]int, api.Errno) {
	var arcs []int
	for len(body) > 0 {
		size := 1 + slices.IndexFunc(body, func(x byte) bool { return x < 0x80 })
		if size < 1 || size > 4 || body[0] == 0x80 {
			return nil, api.ErrOID
		}
		n := 0
		for _, x := range body[:size] {
			n = n*128 + int(x)%128
		}
		body = body[size:]
		switch {
		case arcs != nil:
			arcs = append(arcs, n)
		case n < 40:
			arcs = []int{0, n}
		case n < 80:
			arcs = []int{1, n - 40}
		default:
			arcs = []int{2, n - 80}
		}
	}
	if len(arcs) < 2 || len(arcs) > 16 {
		return nil, api.ErrOID
	}
	return arcs, api.OK
}

func holdObject(t *testing.T, arcs []int) {
	t.Helper()
	b, e := ints.PutOID(arcs)
	if !objectAsTold(arcs) {
		if len(b) != 0 || e != api.ErrOID {
			t.Fatalf("%v: %x %v", arcs, b, e)
		}
		return
	}
	if e != api.OK || !bytes.Equal(b, objectBody(arcs)) {
		t.Fatalf("%v: %x %v, not %x", arcs, b, e, objectBody(arcs))
	}
	if again, e := ints.OID(b); e != api.OK || !slices.Equal(again, arcs) {
		t.Fatalf("%v: %x is read %v %v", arcs, b, again, e)
	}
}

func holdObjectBody(t *testing.T, body []byte) {
	t.Helper()
	arcs, e := ints.OID(body)
	want, wrong := objectOfBody(body)
	if !slices.Equal(arcs, want) || e != wrong {
		t.Fatalf("%x: %v %v, not %v %v", body, arcs, e, want, wrong)
	}
	if e != api.OK {
		return
	}
	if b, e := ints.PutOID(arcs); e != api.OK || !bytes.Equal(b, body) {
		t.Fatalf("%x: %v is written %x %v", body, arcs, b, e)
	}
}

// arcsOfOne is an object of n arcs, all of them but the first two the same.
func arcsOfOne(n, first, second, other int) []int {
	arcs := []int{first, second}
	for len(arcs) < n {
		arcs = append(arcs, other)
	}
	return arcs[:n]
}

// P2.1, I2: the chapter's example, and the edges of what an object is.
func TestObjectsAreWritten(t *testing.T) {
	for _, c := range []struct {
		arcs []int
		want string
	}{
		{[]int{1, 2, 840}, "\x2a\x86\x48"},
		{[]int{1, 2, 840, 113549}, "\x2a\x86\x48\x86\xf7\x0d"},
		{[]int{0, 0}, "\x00"},
		{[]int{0, 39}, "\x27"},
		{[]int{1, 0}, "\x28"},
		{[]int{1, 39}, "\x4f"},
		{[]int{2, 0}, "\x50"},
		{[]int{2, 39}, "\x77"},
		{[]int{2, 40}, "\x78"},
		{[]int{2, 47}, "\x7f"},
		{[]int{2, 48}, "\x81\x00"},
		{[]int{2, 999}, "\x88\x37"},
		{[]int{2, 5, 29, 15}, "\x55\x1d\x0f"},
		{[]int{0, 0, 0}, "\x00\x00"},
		{[]int{2, 0, 127}, "\x50\x7f"},
		{[]int{2, 0, 128}, "\x50\x81\x00"},
		{[]int{2, 0, 1<<14 - 1}, "\x50\xff\x7f"},
		{[]int{2, 0, 1 << 14}, "\x50\x81\x80\x00"},
		{[]int{2, 0, 1<<21 - 1}, "\x50\xff\xff\x7f"},
		{[]int{2, 0, 1 << 21}, "\x50\x81\x80\x80\x00"},
		{[]int{2, 0, api.MaxArc}, "\x50\xff\xff\xff\x7f"},
		{[]int{2, api.MaxArc - 80}, "\xff\xff\xff\x7f"},
		{[]int{2, api.MaxArc - 80, 0}, "\xff\xff\xff\x7f\x00"},
		{arcsOfOne(16, 0, 0, 0), strings.Repeat("\x00", 15)},
		{arcsOfOne(16, 2, api.MaxArc-80, api.MaxArc), strings.Repeat("\xff\xff\xff\x7f", 15)},
	} {
		if b, e := ints.PutOID(c.arcs); string(b) != c.want || e != api.OK {
			t.Errorf("%v: %x %v, not %x", c.arcs, b, e, c.want)
		}
		if arcs, e := ints.OID([]byte(c.want)); !slices.Equal(arcs, c.arcs) || e != api.OK {
			t.Errorf("%x: %v %v, not %v", c.want, arcs, e, c.arcs)
		}
	}
}

// P2.1, I2, P2: lists that are no object.
func TestObjectsAreRefused(t *testing.T) {
	for _, arcs := range [][]int{
		nil,
		{},
		{0},
		{1},
		{2},
		{0, 40},
		{1, 40},
		{1, 128},
		{0, api.MaxArc},
		{1, api.MaxArc},
		{3, 0},
		{3, 1},
		{4, 0},
		{-1, 0},
		{-1, 80},
		{0, -1},
		{1, -1},
		{2, -1},
		{2, -80},
		{2, api.MaxArc - 79},
		{2, api.MaxArc},
		{2, api.MaxArc + 1},
		{2, math.MaxInt},
		{2, math.MinInt},
		{math.MaxInt, 1},
		{math.MinInt, 1},
		{math.MaxInt, math.MaxInt},
		{1, 2, -1},
		{1, 2, api.MaxArc + 1},
		{1, 2, math.MaxInt},
		{1, 2, math.MinInt},
		{1, 2, -1, 3},
		{1, 2, 3, api.MaxArc + 1},
		arcsOfOne(16, 1, 2, -1),
		arcsOfOne(17, 0, 0, 0),
		arcsOfOne(17, 1, 2, 3),
		arcsOfOne(1<<20, 1, 2, 3),
	} {
		if b, e := ints.PutOID(arcs); len(b) != 0 || e != api.ErrOID {
			t.Errorf("%d arcs: %x %v", len(arcs), b, e)
		}
	}
	late := arcsOfOne(16, 1, 2, 3)
	late[15] = api.MaxArc + 1
	if b, e := ints.PutOID(late); len(b) != 0 || e != api.ErrOID {
		t.Errorf("%x %v", b, e)
	}
}

// P2.1, I2, P2: bytes that are no object's, those that would wrap round to one among them.
func TestObjectBodiesAreRefused(t *testing.T) {
	for _, body := range []string{
		"",
		"\x80",
		"\x80\x01",
		"\x80\x80\x01",
		"\x86",
		"\x2a\x80",
		"\x2a\x80\x01",
		"\x2a\x80\x80\x01",
		"\x2a\x86",
		"\x2a\x86\x48\x86",
		"\x2a\x86\x48\x80\x00",
		"\x81\x80\x80\x80\x00",
		"\x2a\x81\x80\x80\x80\x00",
		"\x2a\xff\xff\xff\xff\x7f",
		"\x2a\x81\x80\x80\x80\x80\x80\x80\x80\x80\x00",
		"\x2a\x82\x80\x80\x80\x80\x80\x80\x80\x80\x01",
		"\x82\x80\x80\x80\x80\x80\x80\x80\x80\x01",
		"\x2a\x90\x80\x80\x80\x01", // of 32 bits, the highest are lost
		"\x2a\xff\xff\xff\xff\xff\xff\xff\xff\xff\x7f",
		strings.Repeat("\x01", 16),
		strings.Repeat("\x01", 61),
		strings.Repeat("\xff\xff\xff\x7f", 16),
		strings.Repeat("\xff\xff\xff\x7f", 15) + "\x80",
		strings.Repeat("\xff\xff\xff\x7f", 15) + "\x00",
		strings.Repeat("\x01", 1<<20),
		strings.Repeat("\x80", 1<<20),
		strings.Repeat("\xff", 1<<20),
	} {
		if arcs, e := ints.OID([]byte(body)); len(arcs) != 0 || e != api.ErrOID {
			t.Errorf("%.20x: %d arcs %v", body, len(arcs), e)
		}
	}
	if arcs, e := ints.OID(nil); len(arcs) != 0 || e != api.ErrOID {
		t.Error(arcs, e)
	}
}

// P2.1, P2.2: all pairs of first arcs about the edges, and lists of all lengths of such ones.
func TestObjectsOfAllLists(t *testing.T) {
	for first := -1; first <= 4; first++ {
		for second := -100; second <= 20000; second++ {
			holdObject(t, []int{first, second})
		}
		for near := -200; near <= 200; near++ {
			holdObject(t, []int{first, api.MaxArc + near})
			holdObject(t, []int{first, 0, api.MaxArc + near})
		}
	}
	for arc := range 1<<21 + 10 {
		if arc > 1<<14+10 && arc < 1<<21-10 {
			continue
		}
		holdObject(t, []int{1, 3, arc})
	}
	edges := []int{-1, 0, 1, 39, 40, 79, 80, 127, 128, 1 << 14, 1 << 21, api.MaxArc - 80, api.MaxArc, api.MaxArc + 1}
	next := drawn()
	for range 200000 {
		arcs := make([]int, next(19))
		for i := range arcs {
			arcs[i] = next(1 << (1 + next(28)))
			if next(4) == 0 {
				arcs[i] = edges[1+next(len(edges)-2)]
			}
		}
		if len(arcs) > 1 {
			arcs[0] = next(3)
			if next(3) > 0 {
				arcs[1] %= 40
			}
			if next(20) == 0 {
				arcs[next(len(arcs))] = edges[next(len(edges))]
			}
		}
		holdObject(t, arcs)
	}
}

// P2.1, P2.2, P1: all short bodies, those of the bytes that matter, and longer ones.
func TestObjectsOfAllBodies(t *testing.T) {
	allStrings(allBytes(), 2, func(b []byte) { holdObjectBody(t, b) })
	allStrings([]byte{0x00, 0x01, 0x27, 0x28, 0x4f, 0x50, 0x7f}, 3, func(b []byte) { holdObjectBody(t, b) })
	allStrings([]byte{0x00, 0x7f, 0x80, 0x81, 0xff}, 7, func(b []byte) { holdObjectBody(t, b) })
	next := drawn()
	for range 200000 {
		b := make([]byte, next(70))
		for i := range b {
			b[i] = byte(next(0x100))
			if i%4 == 3 || next(30) == 0 {
				b[i] &= 0x7f
			}
		}
		holdObjectBody(t, b)
	}
	for n := range 20 {
		for size := 1; size <= 5; size++ {
			one := strings.Repeat("\x81", size-1) + "\x01"
			holdObjectBody(t, []byte(strings.Repeat(one, n)))
			holdObjectBody(t, []byte(strings.Repeat(one, n)+"\x81"))
		}
	}
}

// P2.1, P2.2, I3, P2: FF, 00, and nothing else.
func TestTruths(t *testing.T) {
	if b := ints.PutBool(true); string(b) != "\xff" {
		t.Errorf("%x", b)
	}
	if b := ints.PutBool(false); string(b) != "\x00" {
		t.Errorf("%x", b)
	}
	allStrings(allBytes(), 2, func(b []byte) {
		want, wrong := false, api.ErrBool
		switch string(b) {
		case "\xff":
			want, wrong = true, api.OK
		case "\x00":
			wrong = api.OK
		}
		if is, e := ints.Bool(b); is != want || e != wrong {
			t.Fatalf("%x: %v %v", b, is, e)
		}
	})
	for _, body := range []string{strings.Repeat("\xff", 1<<20), "\xff\xff\xff", "\x00\x00\x00"} {
		if is, e := ints.Bool([]byte(body)); is || e != api.ErrBool {
			t.Errorf("%.20x: %v %v", body, is, e)
		}
	}
	if is, e := ints.Bool(nil); is || e != api.ErrBool {
		t.Error(is, e)
	}
}

// bitsBody is bits' body, by the section Types: the mask's digits, the lowest first, cut off behind the last one that is set, and filled up to whole bytes.
func bitsBody(mask uint16) []byte {
	text := []byte(fmt.Sprintf("%016b", mask))
	slices.Reverse(text)
	all := strings.TrimRight(string(text), "0")
	unused := (8 - len(all)%8) % 8
	return append([]byte{byte(unused)}, ofDigits(all+strings.Repeat("0", unused))...)
}

// P2.1, I3: the chapter's examples, each bit by itself, and bits beside it.
func TestBitsAreWritten(t *testing.T) {
	for _, c := range []struct {
		mask uint16
		want string
	}{
		{0, "\x00"},
		{1, "\x07\x80"},
		{2, "\x06\x40"},
		{3, "\x06\xc0"},
		{4, "\x05\x20"},
		{8, "\x04\x10"},
		{0x10, "\x03\x08"},
		{0x20, "\x02\x04"},
		{0x21, "\x02\x84"},
		{0x40, "\x01\x02"},
		{0x80, "\x00\x01"},
		{0xff, "\x00\xff"},
		{0x100, "\x07\x00\x80"},
		{0x101, "\x07\x80\x80"},
		{0x8000, "\x00\x00\x01"},
		{0xffff, "\x00\xff\xff"},
		{api.UseSign | api.UseCert, "\x02\x84"},
	} {
		if b := ints.PutBits(c.mask); string(b) != c.want {
			t.Errorf("%x: %x, not %x", c.mask, b, c.want)
		}
		if mask, e := ints.Bits([]byte(c.want)); mask != c.mask || e != api.OK {
			t.Errorf("%x: %x %v, not %x", c.want, mask, e, c.mask)
		}
	}
}

// P2.1, I3, P2: bytes that are no bits': not used bits that are set or told wrong, bytes that are not needed, more bits than a mask has.
func TestBitsAreRefused(t *testing.T) {
	for _, body := range []string{
		"",
		"\x01",
		"\x07",
		"\x08",
		"\x00\x00",
		"\x07\x00",
		"\x00\x80",
		"\x06\x80",
		"\x08\x80",
		"\x07\xc0",
		"\x07\x81",
		"\x02\x02",
		"\xff\x80",
		"\x07\x80\x00",
		"\x00\x80\x00",
		"\x00\x00\x00",
		"\x07\x80\x01",
		"\x08\x00\x80",
		"\x00\x00\x00\x80",
		"\x07\x00\x00\x80",
		"\x07\x80\x80\x00",
		"\x00\xff\xff\x00",
		"\x00\xff\xff\xff",
		strings.Repeat("\x00", 1<<20),
		strings.Repeat("\x07\x80", 1<<20),
	} {
		if mask, e := ints.Bits([]byte(body)); mask != 0 || e != api.ErrBits {
			t.Errorf("%.20x: %x %v", body, mask, e)
		}
	}
	if mask, e := ints.Bits(nil); mask != 0 || e != api.ErrBits {
		t.Error(mask, e)
	}
}

// P2.1, P2.2, P1: all masks, and all bodies of at most three bytes: the bodies that are read are those that are written.
func TestBitsOfAllMasks(t *testing.T) {
	masks := map[string]uint16{}
	for i := range 0x10000 {
		mask := uint16(i)
		want := bitsBody(mask)
		if b := ints.PutBits(mask); !bytes.Equal(b, want) {
			t.Fatalf("%x: %x, not %x", mask, b, want)
		}
		if again, e := ints.Bits(want); again != mask || e != api.OK {
			t.Fatalf("%x: %x is read %x %v", mask, want, again, e)
		}
		masks[string(want)] = mask
	}
	hold := func(b []byte) {
		want, is := masks[string(b)]
		wrong := api.OK
		if !is {
			wrong = api.ErrBits
		}
		if mask, e := ints.Bits(b); mask != want || e != wrong {
			t.Fatalf("%x: %x %v, not %x %v", b, mask, e, want, wrong)
		}
	}
	allStrings(allBytes(), 2, hold)
	for unused := range 10 {
		for i := range 0x10000 {
			hold([]byte{byte(unused), byte(i >> 8), byte(i)})
		}
	}
	allStrings([]byte{0x00, 0x01, 0x07, 0x80, 0xff}, 5, hold)
}

// P3: what is handed in is not changed, nor its spare room, nor looked at behind its length, nor given out.
func TestBodiesAreLeftAlone(t *testing.T) {
	for _, all := range []string{"\x12\x34\x56\x78", "\x2a\x86\x48\x00", "\x00\xff\x00\xff", "\xff\x00\x00\x00", "\x02\x04\x00\x00", "\x80\x80\x80\x80"} {
		for n := range 5 {
			b := []byte(all)
			_, wrongInt := ints.Int(b[:n])
			arcs, wrongOID := ints.OID(b[:n])
			_, wrongBool := ints.Bool(b[:n])
			_, wrongBits := ints.Bits(b[:n])
			if string(b) != all {
				t.Fatalf("%x is changed: %x", all, b)
			}
			kept := slices.Clone(arcs)
			alone := []byte(all[:n])
			for i := range b {
				b[i] ^= 0xff
			}
			if !slices.Equal(arcs, kept) {
				t.Fatalf("%x is given out: %v", all[:n], arcs)
			}
			_, aloneInt := ints.Int(alone)
			again, aloneOID := ints.OID(alone)
			_, aloneBool := ints.Bool(alone)
			_, aloneBits := ints.Bits(alone)
			if wrongInt != aloneInt || wrongOID != aloneOID || wrongBool != aloneBool || wrongBits != aloneBits || !slices.Equal(again, kept) {
				t.Fatalf("%x hangs on what stands behind it", all[:n])
			}
		}
	}
}

// P3: arcs are not changed, nor their spare room, nor looked at behind their length.
func TestArcsAreLeftAlone(t *testing.T) {
	all := []int{1, 2, 840, 113549, -1}
	for n := range 6 {
		arcs := slices.Clone(all)
		b, e := ints.PutOID(arcs[:n])
		if !slices.Equal(arcs, all) {
			t.Fatal("changed", arcs)
		}
		want := api.OK
		if n < 2 || n > 4 {
			want = api.ErrOID
		}
		if e != want {
			t.Fatal(n, b, e)
		}
	}
}

// P3: what comes out is new memory, its spare room too: it may be written over, and the next answer is as it was.
func TestAnswersAreNew(t *testing.T) {
	body := []byte{0x2a, 0x86, 0x48, 0x86, 0xf7, 0x0d}
	puts := map[string]func() []byte{
		"number 0":   func() []byte { return ints.PutInt(0) },
		"number 128": func() []byte { return ints.PutInt(128) },
		"object":     func() []byte { b, _ := ints.PutOID([]int{1, 2, 840, 113549}); return b },
		"true":       func() []byte { return ints.PutBool(true) },
		"false":      func() []byte { return ints.PutBool(false) },
		"no bits":    func() []byte { return ints.PutBits(0) },
		"bits":       func() []byte { return ints.PutBits(0x8001) },
	}
	for name, put := range puts {
		first, second := put(), put()
		was := string(first)
		for i := range second[:cap(second)] {
			second[:cap(second)][i] ^= 0xff
		}
		if string(first) != was || string(put()) != was {
			t.Error(name)
		}
	}
	first, _ := ints.OID(body)
	second, _ := ints.OID(body)
	for i := range second[:cap(second)] {
		second[:cap(second)][i] = -1
	}
	third, _ := ints.OID(body)
	want := []int{1, 2, 840, 113549}
	if !slices.Equal(first, want) || !slices.Equal(third, want) {
		t.Error(first, third)
	}
}

func ExamplePutInt() {
	fmt.Printf("% x, % x\n", ints.PutInt(128), ints.PutInt(-1))
	_, err := ints.Int([]byte{0x00, 0x01})
	fmt.Println(err)
	// Output:
	// 00 80, ff
	// warder: error 21
}

func ExamplePutOID() {
	b, err := ints.PutOID([]int{1, 2, 840})
	fmt.Printf("% x %d\n", b, err)
	// Output: 2a 86 48 0
}

func ExamplePutBits() {
	fmt.Printf("% x, % x\n", ints.PutBits(1), ints.PutBits(0x20))
	// Output: 07 80, 02 04
}
