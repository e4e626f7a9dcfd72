package texts_test

import (
	"bytes"
	"fmt"
	"math"
	"slices"
	"strconv"
	"strings"
	"testing"
	"time"
	"unicode"

	"warder/api"
	"warder/texts"
)

// drawn tells numbers that look drawn, and are the same each time.
func drawn() func(below int) int {
	state := uint64(1)
	return func(below int) int {
		state = state*6364136223846793005 + 1442695040888963407
		return int(state>>33) % below
	}
}

// allStrings does it with each string of at most so many of these letters.
func allStrings(letters []string, most int, do func(s string)) {
	var deeper func(s string, n int)
	deeper = func(s string, n int) {
		do(s)
		if n == most {
			return
		}
		for _, x := range letters {
			deeper(s+x, n+1)
		}
	}
	deeper("", 0)
}

func allBytes() []string {
	var all []string
	for i := range 0x100 {
		all = append(all, string([]byte{byte(i)}))
	}
	return all
}

var textTags = []byte{api.TagUTF8, api.TagPrintable, api.TagIA5, api.TagGeneral}

// rightAsTold is X1's Right, by the section Types.
func rightAsTold(tag byte, body []byte) bool {
	s := string(body)
	switch tag {
	case api.TagUTF8:
		return string([]rune(s)) == s
	case api.TagPrintable:
		return strings.Trim(s, "ABCDEFGHIJKLMNOPQRSTUVWXYZabcdefghijklmnopqrstuvwxyz0123456789 '()+,-./:=?") == ""
	case api.TagIA5:
		return !slices.ContainsFunc(body, func(x byte) bool { return x >= 128 })
	case api.TagGeneral:
		return !slices.ContainsFunc(body, func(x byte) bool { return x < ' ' || x > '~' })
	}
	return false
}

func holdRight(t *testing.T, tag byte, s string) {
	t.Helper()
	if is := texts.Right(tag, []byte(s)); is != rightAsTold(tag, []byte(s)) {
		t.Fatalf("%x of tag %x: %v", s, tag, is)
	}
}

// P3.1, X1: texts of each tag, and those beside its edges.
func TestTextsOfEachTag(t *testing.T) {
	for _, c := range []struct {
		s       string
		utf8    bool
		print   bool
		ia5     bool
		general bool
	}{
		{"", true, true, true, true},
		{"Ann Lee", true, true, true, true},
		{"AZaz09 '()+,-./:=?", true, true, true, true},
		{"a@b", true, false, true, true},
		{"a*b", true, false, true, true},
		{"a&b", true, false, true, true},
		{"a_b", true, false, true, true},
		{"a\"b", true, false, true, true},
		{"a;b", true, false, true, true},
		{"a<b", true, false, true, true},
		{"~", true, false, true, true},
		{"a\tb", true, false, true, false},
		{"\x00", true, false, true, false},
		{"\x1f", true, false, true, false},
		{"\x7f", true, false, true, false},
		{"Ann Lee\n", true, false, true, false},
		{"\u0080", true, false, false, false},
		{"é", true, false, false, false},
		{"\u00a0", true, false, false, false},
		{"\ufffd", true, false, false, false},
		{"\ufeff", true, false, false, false},
		{"\U0010ffff", true, false, false, false},
		{"a\u0130", true, false, false, false}, // its last byte's low half is a letter's
		{"\x80", false, false, false, false},
		{"\xff", false, false, false, false},
		{"\xc3", false, false, false, false},
		{"\xc3a", false, false, false, false},
		{"Ann\xe9", false, false, false, false},
		{"\xc1\x81", false, false, false, false},         // longer than needed
		{"\xe0\x80\x81", false, false, false, false},     // longer than needed
		{"\xed\xa0\x80", false, false, false, false},     // half of a pair
		{"\xf4\x90\x80\x80", false, false, false, false}, // above all runes
		{"\xef\xbf", false, false, false, false},
		{"\xef", false, false, false, false},
	} {
		for i, want := range []bool{c.utf8, c.print, c.ia5, c.general} {
			if is := texts.Right(textTags[i], []byte(c.s)); is != want {
				t.Errorf("%q of tag %x: %v", c.s, textTags[i], is)
			}
		}
	}
	for _, tag := range textTags {
		if !texts.Right(tag, nil) {
			t.Errorf("no bytes of tag %x", tag)
		}
	}
}

// P3.1, X1: other tags have no texts.
func TestOtherTagsHaveNoTexts(t *testing.T) {
	for i := range 0x100 {
		tag := byte(i)
		if slices.Contains(textTags, tag) {
			continue
		}
		for _, s := range []string{"", "a", "700101000000Z", "20500101000000Z", "\x80"} {
			if texts.Right(tag, []byte(s)) {
				t.Errorf("%q of tag %x", s, tag)
			}
		}
	}
}

// P3.1, X1, P1: all short bodies, all runes, and one wrong byte in a long text.
func TestTextsOfAllBodies(t *testing.T) {
	for _, tag := range textTags {
		allStrings(allBytes(), 2, func(s string) { holdRight(t, tag, s) })
		edges := []string{"a", "\x7f", "\x80", "\x8f", "\x90", "\x9f", "\xa0", "\xbf", "\xc1", "\xc2", "\xe0", "\xed", "\xef", "\xf0", "\xf4", "\xf5"}
		allStrings(edges, 4, func(s string) { holdRight(t, tag, s) })
		for r := range rune(0x110000) {
			holdRight(t, tag, string(r))
		}
		long := strings.Repeat("abcdefgh", 1<<17)
		holdRight(t, tag, long)
		for _, at := range []int{0, 1, 1 << 10, len(long) - 1} {
			for _, x := range []string{"\x80", "\x7f", "*", "é"} {
				holdRight(t, tag, long[:at]+x+long[at+1:])
			}
		}
	}
}

// span are runes from one to another.
type span struct{ from, to rune }

func within(spans []span, r rune) bool {
	return slices.ContainsFunc(spans, func(s span) bool { return s.from <= r && r <= s.to })
}

var (
	leftOut = []span{{0xad, 0xad}, {0x200b, 0x200d}, {0xfeff, 0xfeff}}
	greats  = []span{{'A', 'Z'}, {0xc0, 0xd6}, {0xd8, 0xde}, {0x391, 0x3a1}, {0x3a3, 0x3a9}, {0x410, 0x42f}}
	blanks  = []span{{' ', ' '}, {0x9, 0xd}, {0x85, 0x85}, {0xa0, 0xa0}, {0x2000, 0x200a}, {0x2028, 0x2029}, {0x202f, 0x202f}, {0x3000, 0x3000}}
)

// prepAsTold is X1's Prep, by the section Types, step by step.
func prepAsTold(s string) string {
	var runes []rune
	for _, r := range []rune(s) {
		switch {
		case within(leftOut, r):
		case within(greats, r):
			runes = append(runes, unicode.ToLower(r))
		case within(blanks, r):
			runes = append(runes, ' ')
		default:
			runes = append(runes, r)
		}
	}
	parts := strings.Split(string(runes), " ")
	parts = slices.DeleteFunc(parts, func(part string) bool { return part == "" })
	return strings.Join(parts, " ")
}

// holdPrep: it is as told, and prepared already; and blanks about it change nothing.
func holdPrep(t *testing.T, s string) {
	t.Helper()
	p := texts.Prep(s)
	if p != prepAsTold(s) {
		t.Fatalf("%q: %q, not %q", s, p, prepAsTold(s))
	}
	if again := texts.Prep(p); again != p {
		t.Fatalf("%q: %q, and that again %q", s, p, again)
	}
	if about := texts.Prep("\u3000 " + s + "\t "); about != p {
		t.Fatalf("%q: %q, and with blanks about it %q", s, p, about)
	}
}

// P3.1, P3.2, X1: the chapter's examples, and each step by itself.
func TestTextsArePrepared(t *testing.T) {
	for _, c := range []struct{ s, want string }{
		{"", ""},
		{"  Ann   LEE ", "ann lee"},
		{"Ann  LEE", "ann lee"},
		{"ann lee", "ann lee"},
		{"É", "é"},
		{"É\u00adx", "éx"},
		{" ", ""},
		{" \t\u3000 ", ""},
		{"a\u200bb\u200cc\u200dd\ufeffe\u00adf", "abcdef"},
		{"\ufeff\u00ad", ""},
		{"a \u00ad b", "a b"},
		{"a\u00ad ", "a"},
		{" \ufeff a", "a"},
		{"\ufeff a", "a"},
		{"a \ufeffb", "a b"},
		{"A\u00a0B\u0085C\u2028D\u2029E\u202fF\u3000G", "a b c d e f g"},
		{"a\u2000\u2001\u200ab", "a b"},
		{"a\t\n\v\f\rb", "a b"},
		{"a\bb\x0ec", "a\bb\x0ec"},
		{"ÀÖ×ØÞßàö÷øþÿ", "àö×øþßàö÷øþÿ"},
		{"ΑΡΣΩΪ", "αρσωΪ"},
		{"\u03a2\u0390\u03aa", "\u03a2\u0390\u03aa"},
		{"АЯаяЀЏ", "аяаяЀЏ"},
		{"@[`{", "@[`{"},
		{"ŸĀ", "ŸĀ"},
		{"\xff", "\ufffd"},
		{"\xffA\xff\xff", "\ufffda\ufffd\ufffd"},
		{"\xe2\x80", "\ufffd\ufffd"},
		{"\xed\xa0\x80", "\ufffd\ufffd\ufffd"},
		{"\xc1\x81", "\ufffd\ufffd"},
		{" \x80 ", "\ufffd"},
		{"\ufffd", "\ufffd"},
		{"\x00", "\x00"},
		{"\u1680a\u205fb\u2060", "\u1680a\u205fb\u2060"},
		{"\U0010ffff", "\U0010ffff"},
	} {
		if p := texts.Prep(c.s); p != c.want {
			t.Errorf("%q: %q, not %q", c.s, p, c.want)
		}
	}
}

// P3.1, P3.2: each rune by itself, between others, and at both ends.
func TestEachRunePrepared(t *testing.T) {
	for r := range rune(0x110000) {
		holdPrep(t, string(r))
		holdPrep(t, "a"+string(r)+"b")
		holdPrep(t, string(r)+" A "+string(r))
	}
}

// P3.1, P3.2, P1: all short texts of runes of all kinds, and longer ones.
func TestAllTextsPrepared(t *testing.T) {
	letters := []string{"a", "A", " ", "\t", "\u3000", "\u00ad", "\ufeff", "Σ", "\xff", "\xe2"}
	allStrings(letters, 6, func(s string) { holdPrep(t, s) })
	allStrings(allBytes(), 2, func(s string) { holdPrep(t, s) })
	next := drawn()
	for range 20000 {
		var b []byte
		for range next(40) {
			switch next(3) {
			case 0:
				b = append(b, letters[next(len(letters))]...)
			case 1:
				b = append(b, byte(next(0x100)))
			case 2:
				b = append(b, string(rune(next(0x3100)))...)
			}
		}
		holdPrep(t, string(b))
	}
	if p := texts.Prep(strings.Repeat(" A\ufeff ", 1<<18)); p != strings.Repeat("a ", 1<<18-1)+"a" {
		t.Error(len(p))
	}
	if p := texts.Prep(strings.Repeat(" ", 1<<20)); p != "" {
		t.Error(len(p))
	}
}

// P3.2: great letters for small ones, and other blanks, more or fewer of them, change nothing.
func TestGreatLettersChangeNothing(t *testing.T) {
	smalls := "abcdefghijklmnopqrstuvwxyz àáâãäåæçèéêëìíîïðñòóôõö øùúûüýþ αβγδεζηθικλμνξοπρ στυφχψω абвгдежзийклмнопрстуфхцчшщъыьэюя"
	if p := texts.Prep(smalls); p != smalls {
		t.Errorf("%q", p)
	}
	if p := texts.Prep(strings.ToUpper(smalls)); p != smalls {
		t.Errorf("%q", p)
	}
	next := drawn()
	runes := []rune(smalls)
	for range 2000 {
		about := strings.Repeat(" ", next(3))
		for _, r := range runes {
			switch {
			case r == ' ':
				about += strings.Repeat("\u2003", next(3)) + " " + strings.Repeat("\n", next(2))
			case next(2) == 0:
				about += string(unicode.ToUpper(r))
			default:
				about += string(r)
			}
		}
		if p := texts.Prep(about + strings.Repeat("\u00a0", next(3))); p != smalls {
			t.Fatalf("%q: %q", about, p)
		}
	}
}

// bodyAsTold is a time's tag and body, by the section Types.
func bodyAsTold(sec int64) (byte, string) {
	at := time.Unix(sec, 0).UTC()
	if sec < 2524608000 {
		return api.TagUTCTime, at.Format("060102150405Z")
	}
	return api.TagTime, at.Format("20060102150405Z")
}

// timeAsTold is X2's Time: its fields each by itself, by the calendar.
func timeAsTold(tag byte, body string) (int64, api.Errno) {
	digits, ended := strings.CutSuffix(body, "Z")
	if !ended || strings.Trim(digits, "0123456789") != "" {
		return 0, api.ErrTime
	}
	switch {
	case tag == api.TagUTCTime && len(digits) == 12 && digits < "50":
		digits = "20" + digits
	case tag == api.TagUTCTime && len(digits) == 12:
		digits = "19" + digits
	case tag == api.TagTime && len(digits) == 14 && digits >= "2050":
	default:
		return 0, api.ErrTime
	}
	var fields []int
	for _, text := range []string{digits[:4], digits[4:6], digits[6:8], digits[8:10], digits[10:12], digits[12:]} {
		n, err := strconv.Atoi(text)
		if err != nil {
			panic(err)
		}
		fields = append(fields, n)
	}
	at := time.Date(fields[0], time.Month(fields[1]), fields[2], fields[3], fields[4], fields[5], 0, time.UTC)
	if at.Format("20060102150405") != digits {
		return 0, api.ErrTime
	}
	return at.Unix(), api.OK
}

// holdTime: it is written as told, and read as it was written.
func holdTime(t *testing.T, sec int64) {
	t.Helper()
	tag, b, e := texts.PutTime(sec)
	if sec < -631152000 || sec > 253402300799 {
		if tag != 0 || len(b) != 0 || e != api.ErrTime {
			t.Fatalf("%d: %x %q %v", sec, tag, b, e)
		}
		return
	}
	wantTag, want := bodyAsTold(sec)
	if tag != wantTag || string(b) != want || e != api.OK {
		t.Fatalf("%d: %x %q %v, not %x %q", sec, tag, b, e, wantTag, want)
	}
	if again, e := texts.Time(tag, b); again != sec || e != api.OK {
		t.Fatalf("%d: %q is read %d %v", sec, b, again, e)
	}
}

// holdBody: it is read as told, and written as it stood.
func holdBody(t *testing.T, tag byte, body string) {
	t.Helper()
	sec, e := texts.Time(tag, []byte(body))
	want, wrong := timeAsTold(tag, body)
	if sec != want || e != wrong {
		t.Fatalf("%q of tag %x: %d %v, not %d %v", body, tag, sec, e, want, wrong)
	}
	if e != api.OK {
		return
	}
	if again, b, e := texts.PutTime(sec); again != tag || string(b) != body || e != api.OK {
		t.Fatalf("%q of tag %x: %d is written %x %q %v", body, tag, sec, again, b, e)
	}
}

// P3.1, P3.3, X2: the chapter's examples, and the edges of years, of tags, and of all times.
func TestTimesAreWritten(t *testing.T) {
	for _, c := range []struct {
		sec  int64
		tag  byte
		want string
	}{
		{0, api.TagUTCTime, "700101000000Z"},
		{1, api.TagUTCTime, "700101000001Z"},
		{-1, api.TagUTCTime, "691231235959Z"},
		{59, api.TagUTCTime, "700101000059Z"},
		{60, api.TagUTCTime, "700101000100Z"},
		{3599, api.TagUTCTime, "700101005959Z"},
		{3600, api.TagUTCTime, "700101010000Z"},
		{86399, api.TagUTCTime, "700101235959Z"},
		{86400, api.TagUTCTime, "700102000000Z"},
		{api.MinTime, api.TagUTCTime, "500101000000Z"},
		{api.MinTime + 1, api.TagUTCTime, "500101000001Z"},
		{946684799, api.TagUTCTime, "991231235959Z"},
		{946684800, api.TagUTCTime, "000101000000Z"},
		{951782400, api.TagUTCTime, "000229000000Z"},
		{951868800, api.TagUTCTime, "000301000000Z"},
		{1000000000, api.TagUTCTime, "010909014640Z"},
		{2524607999, api.TagUTCTime, "491231235959Z"},
		{2524608000, api.TagTime, "20500101000000Z"},
		{4107542399, api.TagTime, "21000228235959Z"},
		{4107542400, api.TagTime, "21000301000000Z"},
		{13574563200, api.TagTime, "24000229000000Z"},
		{api.MaxTime - 1, api.TagTime, "99991231235958Z"},
		{api.MaxTime, api.TagTime, "99991231235959Z"},
	} {
		if tag, b, e := texts.PutTime(c.sec); tag != c.tag || string(b) != c.want || e != api.OK {
			t.Errorf("%d: %x %q %v, not %x %q", c.sec, tag, b, e, c.tag, c.want)
		}
		if sec, e := texts.Time(c.tag, []byte(c.want)); sec != c.sec || e != api.OK {
			t.Errorf("%q: %d %v, not %d", c.want, sec, e, c.sec)
		}
	}
}

// P3.1, X2, P2: seconds that are no time.
func TestTimesAreRefused(t *testing.T) {
	for _, sec := range []int64{api.MinTime - 1, api.MinTime - 86400, api.MaxTime + 1, api.MaxTime + 86400, math.MinInt64, math.MaxInt64, math.MinInt64 + 1, math.MaxInt64 - 1, 1 << 62, -1 << 62} {
		if tag, b, e := texts.PutTime(sec); tag != 0 || len(b) != 0 || e != api.ErrTime {
			t.Errorf("%d: %x %q %v", sec, tag, b, e)
		}
	}
}

// P3.1, X2, P2: bytes that are no time's, of both tags.
func TestTimeBodiesAreRefused(t *testing.T) {
	for _, body := range []string{
		"",
		"Z",
		"0Z",
		"70Z",
		"7001010000Z", // no seconds
		"700101000000",
		"70010100000Z",
		"700101000000z",
		"700101000000ZZ",
		"700101000000 ",
		" 00101000000Z",
		"+00101000000Z",
		"-10101000000Z",
		"7001010000-1Z",
		"70010100000:Z", // the sign behind 9
		"7001010000/:Z",
		"7001010000\xfa0Z", // it would wrap round to a digit
		"701301000000Z",
		"700001000000Z",
		"709901000000Z",
		"700100000000Z",
		"700132000000Z",
		"700229000000Z",
		"700230000000Z",
		"700431000000Z",
		"700631000000Z",
		"700931000000Z",
		"701131000000Z",
		"010229000000Z",
		"000230000000Z",
		"700101240000Z",
		"700101006000Z",
		"700101000060Z",
		"700101235960Z",
		"700101999999Z",
		"700101000000+0000",
		"7001010000+0000",
		"700101000000.0Z",
		"19700101000000Z",
		"19500101000000Z",
		"20000101000000Z",
		"20490101000000Z",
		"20491231235959Z",
		"2049123123595:Z",
		"00000101000000Z",
		"00010101000000Z",
		"21000229000000Z",
		"20501301000000Z",
		"20500001000000Z",
		"20500100000000Z",
		"20500101240000Z",
		"20500101000060Z",
		"20500101000000",
		"20500101000000z",
		"20500101000000.5Z",
		"205001010000Z",
		"100000101000000Z",
		"99991231235960Z",
		"99991231240000Z",
		"999912312359590Z",
		":0000101000000Z", // above all times
		"\xff\xff\xff\xff\xff\xff\xff\xff\xff\xff\xff\xffZ",
		"\xff\xff\xff\xff\xff\xff\xff\xff\xff\xff\xff\xff\xff\xffZ",
		strings.Repeat("\x00", 13),
		strings.Repeat("\x00", 15),
		strings.Repeat("0", 1<<20) + "Z",
		"700101000000Z" + strings.Repeat("Z", 1<<20),
	} {
		for _, tag := range []byte{api.TagUTCTime, api.TagTime} {
			if sec, e := texts.Time(tag, []byte(body)); sec != 0 || e != api.ErrTime {
				t.Errorf("%.20q of tag %x: %d %v", body, tag, sec, e)
			}
		}
	}
	for _, tag := range []byte{api.TagUTCTime, api.TagTime} {
		if sec, e := texts.Time(tag, nil); sec != 0 || e != api.ErrTime {
			t.Error(sec, e)
		}
	}
}

// P3.1, X2: a time has its own tag, and no other one.
func TestOtherTagsHaveNoTimes(t *testing.T) {
	for i := range 0x100 {
		for _, body := range []string{"", "700101000000Z", "20500101000000Z", "99991231235959Z"} {
			holdBody(t, byte(i), body)
		}
	}
}

// P3.3, P3.1: each day, at its ends, and some days somewhere in them; each second of some days.
func TestTimesThereAndBack(t *testing.T) {
	next := drawn()
	for day := int64(-631152000); day <= 253402300799; day += 86400 {
		holdTime(t, day)
		holdTime(t, day+86399)
		if next(8) == 0 {
			holdTime(t, day+int64(next(86400)))
		}
	}
	for _, day := range []int64{-631152000, -86400, 0, 951782400, 2524521600, 2524608000, 253402214400} {
		for n := int64(-5); n < 86405; n++ {
			holdTime(t, day+n)
		}
	}
}

// P3.3, P1: bodies with each byte changed to each other one, with each field anything, cut off, and longer.
func TestTimesOfAllBodies(t *testing.T) {
	for _, body := range []string{"700101000000Z", "500101000000Z", "491231235959Z", "000229123456Z", "20500101000000Z", "20600229111111Z", "21001130091827Z", "99991231235959Z"} {
		for _, tag := range []byte{api.TagUTCTime, api.TagTime} {
			for at := range body {
				for x := range 0x100 {
					holdBody(t, tag, body[:at]+string([]byte{byte(x)})+body[at+1:])
				}
				holdBody(t, tag, body[:at])
				holdBody(t, tag, body[at:])
				holdBody(t, tag, body[:at]+"0"+body[at:])
				holdBody(t, tag, body[:at]+body[at+1:])
				holdBody(t, tag, body[:at]+"Z")
			}
			for at := 0; at+2 < len(body); at += 2 {
				for n := range 100 {
					holdBody(t, tag, body[:at]+fmt.Sprintf("%02d", n)+body[at+2:])
				}
			}
		}
	}
	for md := range 10000 {
		for _, y := range []string{"50", "70", "96", "99", "00", "01", "04", "49"} {
			holdBody(t, api.TagUTCTime, y+fmt.Sprintf("%04d", md)+"120000Z")
		}
		for _, y := range []string{"1996", "2000", "2049", "2050", "2052", "2100", "2400", "9999"} {
			holdBody(t, api.TagTime, y+fmt.Sprintf("%04d", md)+"120000Z")
		}
	}
	for y := range 10000 {
		holdBody(t, api.TagTime, fmt.Sprintf("%04d", y)+"0229000000Z")
		holdBody(t, api.TagTime, fmt.Sprintf("%04d", y)+"0101000000Z")
	}
	letters := "0123456789:/Z\xff\x00"
	next := drawn()
	for range 200000 {
		b := make([]byte, 11+next(6))
		for i := range b {
			b[i] = letters[next(3)]
			if next(8) == 0 {
				b[i] = letters[next(len(letters))]
			}
		}
		b[len(b)-1] = 'Z'
		holdBody(t, api.TagUTCTime, string(b))
		holdBody(t, api.TagTime, string(b))
	}
}

// P3.3: the later one's body stands behind, but of 1950 to 1999 ahead of 2000 to 2049.
func TestTimesInOrder(t *testing.T) {
	next := drawn()
	draw := func() int64 {
		if next(2) == 0 {
			return -631152000 + int64(next(1<<31))*147/100%3155760000
		}
		return 2524608000 + int64(next(1<<31))*116
	}
	pairs := [][2]int64{{-631152000, 946684799}, {946684799, 946684800}, {-631152000, 2524607999}, {946684800, 2524607999}, {2524607999, 2524608000}, {2524608000, 253402300799}, {0, 1}, {0, 0}}
	for range 200000 {
		pairs = append(pairs, [2]int64{draw(), draw()})
	}
	for _, pair := range pairs {
		early, late := min(pair[0], pair[1]), max(pair[0], pair[1])
		earlyTag, a, e := texts.PutTime(early)
		lateTag, b, f := texts.PutTime(late)
		if e != api.OK || f != api.OK {
			t.Fatal(early, late, e, f)
		}
		if earlyTag != lateTag {
			continue
		}
		want := -1
		switch {
		case early == late:
			want = 0
		case early < 946684800 && late >= 946684800 && lateTag == api.TagUTCTime:
			want = 1
		}
		if got := bytes.Compare(a, b); got != want {
			t.Fatalf("%d %q, %d %q: %d", early, a, late, b, got)
		}
	}
}

// P3: what is handed in is not changed, nor its spare room, nor looked at behind its length.
func TestBodiesAreLeftAlone(t *testing.T) {
	for _, all := range []string{"Ann Lee\xc3\xa9", "700101000000ZZZ", "20500101000000Z0", "\xffab"} {
		for n := range len(all) + 1 {
			b := []byte(all)
			for _, tag := range []byte{api.TagUTF8, api.TagPrintable, api.TagIA5, api.TagGeneral, api.TagUTCTime, api.TagTime} {
				if texts.Right(tag, b[:n]) != texts.Right(tag, []byte(all[:n])) {
					t.Fatalf("%q hangs on what stands behind it", all[:n])
				}
				sec, e := texts.Time(tag, b[:n])
				again, f := texts.Time(tag, []byte(all[:n]))
				if sec != again || e != f {
					t.Fatalf("%q hangs on what stands behind it", all[:n])
				}
			}
			if string(b) != all {
				t.Fatalf("%q is changed: %q", all, b)
			}
		}
	}
}

// P3: what comes out is new memory each time, its spare room too.
func TestBodiesAreNew(t *testing.T) {
	for _, sec := range []int64{0, api.MinTime, 2524608000, api.MaxTime} {
		_, a, _ := texts.PutTime(sec)
		_, b, _ := texts.PutTime(sec)
		want := string(b)
		for i := range cap(a) {
			a[:cap(a)][i] = '!'
		}
		_, c, _ := texts.PutTime(sec)
		if string(b) != want || string(c) != want {
			t.Fatalf("%d: %q %q", sec, b, c)
		}
	}
}

func ExamplePrep() {
	fmt.Println(texts.Prep("  Ann   LEE "))
	fmt.Println(texts.Prep("É"))
	// Output:
	// ann lee
	// é
}

func ExamplePutTime() {
	tag, b, err := texts.PutTime(0)
	fmt.Printf("%x %s %v\n", tag, b, err == api.OK)
	// Output: 17 700101000000Z true
}

func ExampleTime() {
	fmt.Println(texts.Time(api.TagTime, []byte("20500101000000Z")))
	fmt.Println(texts.Time(api.TagTime, []byte("20490101000000Z")))
	// Output:
	// 2524608000 warder: error 0
	// 0 warder: error 32
}
