package codec_test

import (
	"bytes"
	"math"
	"strconv"
	"strings"
	"testing"

	"estafette/api"
	"estafette/codec"
)

// untouched calls f with text in a slice that has more capacity, and tells whether f left all of it alone.
func untouched(text string, f func(b []byte)) bool {
	const rest = "the rest of the capacity"
	all := []byte(text + rest)
	f(all[:len(text)])
	return string(all) == text+rest
}

func encode(t *testing.T, text, want string) {
	t.Helper()
	if got := codec.Encode64([]byte(text)); got != want {
		t.Errorf("Encode64(%q): %q, want %q", text, got, want)
	}
}

func decode(t *testing.T, s, want string) {
	t.Helper()
	if b, e := codec.Decode64(s); e != api.OK || string(b) != want {
		t.Errorf("Decode64(%q): %q, %d; want %q", s, b, e, want)
	}
}

func noCode(t *testing.T, s string) {
	t.Helper()
	if b, e := codec.Decode64(s); e != api.ErrCode || b != nil {
		t.Errorf("Decode64(%q): %q, %d; want ErrCode", s, b, e)
	}
}

func TestP7_1Base64(t *testing.T) {
	for _, c := range []struct{ text, code string }{
		{"", ""},
		{"f", "Zg=="},
		{"fo", "Zm8="},
		{"foo", "Zm9v"},
		{"foob", "Zm9vYg=="},
		{"fooba", "Zm9vYmE="},
		{"foobar", "Zm9vYmFy"},
		{"\x00", "AA=="},
		{"\x00\x00", "AAA="},
		{"\x00\x00\x00", "AAAA"},
		{"\xff", "/w=="},
		{"\xff\xff", "//8="},
		{"\xff\xff\xff", "////"},
		{"\xfb\xef\xbe", "++++"},
		{"\r\n\x80", "DQqA"},
		{"\x00ann\x00pw", "AGFubgBwdw=="},
	} {
		encode(t, c.text, c.code)
		decode(t, c.code, c.text)
	}
	if s := codec.Encode64(nil); s != "" {
		t.Errorf("Encode64(nil): %q", s)
	}
}

// TestP7_1Alphabet has each letter at each place of four.
func TestP7_1Alphabet(t *testing.T) {
	const letters = "ABCDEFGHIJKLMNOPQRSTUVWXYZabcdefghijklmnopqrstuvwxyz0123456789+/"
	for value, letter := range []byte(letters) {
		for place := range 4 {
			bits := value << (18 - 6*place)
			code := []byte("AAAA")
			code[place] = letter
			text := string([]byte{byte(bits >> 16), byte(bits >> 8), byte(bits)})
			encode(t, text, string(code))
			decode(t, string(code), text)
		}
	}
}

func TestP7_1NoAlphabet(t *testing.T) {
	const letters = "ABCDEFGHIJKLMNOPQRSTUVWXYZabcdefghijklmnopqrstuvwxyz0123456789+/"
	for c := range 256 {
		if strings.IndexByte(letters, byte(c)) >= 0 {
			continue
		}
		for place := range 8 {
			s := []byte("Zm9vYmFy")
			s[place] = byte(c)
			noCode(t, string(s))
			noCode(t, "Zm9vYmFy"[:place]+string(s[place:place+1])+"Zm9vYmFy"[place:])
		}
	}
	for _, s := range []string{"Zm9\u0076\u0301", "Zm9\u017f", "Zm9\uff36", "\ufffd\ufffd\ufffd\ufffd", "Zm9\xff", "Zm-_"} {
		noCode(t, s)
	}
}

func TestP7_1Padding(t *testing.T) {
	for _, s := range []string{
		"=", "==", "===", "====", "========", "A", "AA", "AAA", "AAAAA", "AAAAAA", "AAAAAAA",
		"A=", "A==", "A===", "A====", "AA=", "AA===", "AA====", "AA=====", "AAA==", "AAA===", "AAAA=", "AAAA==", "AAAA====",
		"=AAA", "A=AA", "AA=A", "=A==", "A=A=", "AA==AA==", "AA==AAAA", "AAA=AAAA", "AAAA=AAA",
		"Zg==\n", "Zg==\r\n", "\nZg==", "Zg\n==", "Zg=\n=", "Zg== ", " Zg==", "Zm9v\n", "Zm9v\nYg==", "\n", " ", "Zg",
		"Zh==", "Zv==", "Zx==", "Zm9=", "Zm+=", "Zm/=",
	} {
		noCode(t, s)
	}
}

// TestP7_1Rest has all ends of one and of two bytes: the bits behind them must be 0.
func TestP7_1Rest(t *testing.T) {
	const letters = "ABCDEFGHIJKLMNOPQRSTUVWXYZabcdefghijklmnopqrstuvwxyz0123456789+/"
	for i := range 64 {
		for j := range 64 {
			if s := "Zm9v" + letters[i:i+1] + letters[j:j+1] + "=="; j%16 == 0 {
				decode(t, s, "foo"+string([]byte{byte(i<<2 | j>>4)}))
			} else {
				noCode(t, s)
			}
			if s := letters[i:i+1] + "A" + letters[j:j+1] + "="; j%4 == 0 {
				decode(t, s, string([]byte{byte(i << 2), byte(j >> 2)}))
			} else {
				noCode(t, s)
			}
		}
	}
}

func TestP7_1ArgumentIsLeftAlone(t *testing.T) {
	for _, text := range []string{"", "a", "ab", "abc", "abcd"} {
		if !untouched(text, func(b []byte) { codec.Encode64(b) }) {
			t.Errorf("%q", text)
		}
	}
	b, _ := codec.Decode64("Zm9v")
	b[0] = 'x'
	decode(t, "Zm9v", "foo")
}

func TestP7_2Stuff(t *testing.T) {
	for text, want := range map[string]string{
		"":                   ".\r\n",
		"a":                  "a\r\n.\r\n",
		"a\r\n":              "a\r\n.\r\n",
		"a\r\n\r\n":          "a\r\n\r\n.\r\n",
		"\r\n":               "\r\n.\r\n",
		"\r":                 "\r\r\n.\r\n",
		"\n":                 "\n\r\n.\r\n",
		"a\r":                "a\r\r\n.\r\n",
		"a\n":                "a\n\r\n.\r\n",
		"\n\r":               "\n\r\r\n.\r\n",
		".":                  "..\r\n.\r\n",
		"..":                 "...\r\n.\r\n",
		".\r\n":              "..\r\n.\r\n",
		".a":                 "..a\r\n.\r\n",
		"a.":                 "a.\r\n.\r\n",
		"a.b..":              "a.b..\r\n.\r\n",
		"a\r\n.":             "a\r\n..\r\n.\r\n",
		"a\r\n.\r\n":         "a\r\n..\r\n.\r\n",
		"a\r\n..b\r\nc":      "a\r\n...b\r\nc\r\n.\r\n",
		".\r\n.\r\n.":        "..\r\n..\r\n..\r\n.\r\n",
		"\r\n.":              "\r\n..\r\n.\r\n",
		"\r\r\n.":            "\r\r\n..\r\n.\r\n",
		"\r\n\n.":            "\r\n\n.\r\n.\r\n",
		"\r\n\r.":            "\r\n\r.\r\n.\r\n",
		"a\n.b":              "a\n.b\r\n.\r\n",
		"a\r.b":              "a\r.b\r\n.\r\n",
		"a\n\r.b":            "a\n\r.b\r\n.\r\n",
		"\x00\xff\r\n.\x80é": "\x00\xff\r\n..\x80é\r\n.\r\n",
	} {
		if got := string(codec.Stuff([]byte(text))); got != want {
			t.Errorf("Stuff(%q): %q, want %q", text, got, want)
		}
	}
	if got := string(codec.Stuff(nil)); got != ".\r\n" {
		t.Errorf("Stuff(nil): %q", got)
	}
}

func TestP7_2ArgumentIsLeftAlone(t *testing.T) {
	for _, text := range []string{"", "a", ".a", "a\r\n", "a\r\n.b\r\n", "a\r"} {
		if !untouched(text, func(b []byte) { codec.Stuff(b)[0]++ }) {
			t.Errorf("%q", text)
		}
	}
	codec.Stuff(nil)[0] = 'x'
	if got := string(codec.Stuff(nil)); got != ".\r\n" {
		t.Errorf("%q", got)
	}
}

func TestP7_2Unstuff(t *testing.T) {
	for line, want := range map[string]string{
		"":          "",
		"a":         "a",
		"a.":        "a.",
		" .":        " .",
		"..":        ".",
		"...":       "..",
		".a":        "a",
		"..a":       ".a",
		". ":        " ",
		".\r":       "\r",
		".\n":       "\n",
		".\r\n":     "\r\n",
		"\r\n.":     "\r\n.",
		"\xff":      "\xff",
		".\xff\x00": "\xff\x00",
	} {
		if got, end := codec.Unstuff(line); got != want || end {
			t.Errorf("Unstuff(%q): %q, %v; want %q", line, got, end, want)
		}
	}
	if got, end := codec.Unstuff("."); got != "" || !end {
		t.Errorf("Unstuff of a dot: %q, %v", got, end)
	}
}

func quote(t *testing.T, s, want string) {
	t.Helper()
	if got := codec.Quote(s); got != want {
		t.Errorf("Quote(%q): %q, want %q", s, got, want)
	}
}

func TestP7_3Quote(t *testing.T) {
	for s, want := range map[string]string{
		"":             `""`,
		"a":            `"a"`,
		" ":            `" "`,
		"a b":          `"a b"`,
		"NIL":          `"NIL"`,
		"{3}":          `"{3}"`,
		`"`:            `"\""`,
		`\`:            `"\\"`,
		`a"b`:          `"a\"b"`,
		`a\b`:          `"a\\b"`,
		`\"`:           `"\\\""`,
		`"\`:           `"\"\\"`,
		`""`:           `"\"\""`,
		`\\`:           `"\\\\"`,
		"a\n":          "{2}\r\na\n",
		"\r\n":         "{2}\r\n\r\n",
		"\ta":          "{2}\r\n\ta",
		"\x00":         "{1}\r\n\x00",
		"é":            "{2}\r\n\xc3\xa9",
		"a\xff\"b\\":   "{5}\r\na\xff\"b\\",
		"\ufffd":       "{3}\r\n\ufffd",
		"\xc3":         "{1}\r\n\xc3",
		"abc\x7f":      "{4}\r\nabc\x7f",
		"\U0001f4e7ok": "{6}\r\n\U0001f4e7ok",
	} {
		quote(t, s, want)
	}
}

func TestP7_3EachByte(t *testing.T) {
	for c := range 256 {
		s := string([]byte{byte(c)})
		switch {
		case c == '"' || c == '\\':
			quote(t, s, `"\`+s+`"`)
			quote(t, "x"+s+"y", `"x\`+s+`y"`)
		case c >= 32 && c <= 126:
			quote(t, s, `"`+s+`"`)
			quote(t, "x"+s+"y", `"x`+s+`y"`)
		default:
			quote(t, s, "{1}\r\n"+s)
			quote(t, "x"+s+"y", "{3}\r\nx"+s+"y")
		}
	}
}

func TestP7_3Length(t *testing.T) {
	for _, n := range []int{1, 99, 100, 101, 199, 200} {
		a := strings.Repeat("a", n)
		quote(t, a, `"`+a+`"`)
		quote(t, strings.Repeat(`"`, n), `"`+strings.Repeat(`\"`, n)+`"`)
		b := a[1:] + "\x1f"
		quote(t, b, "{"+strconv.Itoa(n)+"}\r\n"+b)
	}
	for _, n := range []int{201, 202, 400, 4096, 16384} {
		for _, c := range []string{"a", `"`, `\`, "\x00"} {
			s := strings.Repeat(c, n)
			quote(t, s, "{"+strconv.Itoa(n)+"}\r\n"+s)
		}
	}
}

func TestP7_4Cases(t *testing.T) {
	for _, c := range []struct{ s, great, small string }{
		{"", "", ""},
		{"az", "AZ", "az"},
		{"AZ", "AZ", "az"},
		{"Inbox", "INBOX", "inbox"},
		{"@AZ[`az{", "@AZ[`AZ{", "@az[`az{"},
		{"a1 B2\r\n", "A1 B2\r\n", "a1 b2\r\n"},
		{"éÉ", "éÉ", "éÉ"},
		{"\u017f\u212a\u0130\u0131ß", "\u017f\u212a\u0130\u0131ß", "\u017f\u212a\u0130\u0131ß"},
		{"a\xffZ", "A\xffZ", "a\xffz"},
		{"\xc3a\x00", "\xc3A\x00", "\xc3a\x00"},
		{"a\ufffdZ", "A\ufffdZ", "a\ufffdz"},
	} {
		if got := codec.Great(c.s); got != c.great {
			t.Errorf("Great(%q): %q", c.s, got)
		}
		if got := codec.Small(c.s); got != c.small {
			t.Errorf("Small(%q): %q", c.s, got)
		}
	}
}

func TestP7_4EachByte(t *testing.T) {
	const small, great = "abcdefghijklmnopqrstuvwxyz", "ABCDEFGHIJKLMNOPQRSTUVWXYZ"
	var all, inGreat, inSmall []byte
	for c := range 256 {
		g, s := byte(c), byte(c)
		if i := strings.IndexByte(small, g); i >= 0 {
			g = great[i]
		}
		if i := strings.IndexByte(great, s); i >= 0 {
			s = small[i]
		}
		all, inGreat, inSmall = append(all, byte(c)), append(inGreat, g), append(inSmall, s)
		if got := codec.Great(string(all[c:])); got != string(inGreat[c:]) {
			t.Errorf("Great(%q): %q", all[c:], got)
		}
		if got := codec.Small(string(all[c:])); got != string(inSmall[c:]) {
			t.Errorf("Small(%q): %q", all[c:], got)
		}
	}
	if got := codec.Great(string(all)); got != string(inGreat) {
		t.Errorf("Great: %q", got)
	}
	if got := codec.Small(string(all)); got != string(inSmall) {
		t.Errorf("Small: %q", got)
	}
}

func number(t *testing.T, s string, most, want int, ok bool) {
	t.Helper()
	if n, is := codec.Number(s, most); n != want || is != ok {
		t.Errorf("Number(%q, %d): %d, %v; want %d, %v", s, most, n, is, want, ok)
	}
}

func TestP7_5Number(t *testing.T) {
	for _, n := range []int{0, 1, 9, 10, 11, 99, 100, 512, 4096, 1 << 31, api.MaxUID, api.MaxUID + 1, 999999999, 1000000000, 9999999999} {
		s := strconv.Itoa(n)
		for _, most := range []int{n, n + 1, math.MaxInt} {
			number(t, s, most, n, true)
		}
		for _, most := range []int{n - 1, -1, -n - 1, math.MinInt} {
			number(t, s, most, 0, false)
		}
	}
}

func TestP7_5NoNumber(t *testing.T) {
	for _, s := range []string{
		"", "00", "01", "007", "0000000000", "0000000001", "10000000000", "99999999999", "18446744073709551616", "18446744073709551617", strings.Repeat("9", 100), strings.Repeat("0", 100),
		"-1", "-0", "+1", "+0", " 1", "1 ", "1\n", "1\r\n", "\t1", "1.", "1.0", ".1", "1,0", "1_0", "0x1", "1e1", "0b1", "a", "A", "1a", "a1", "/", ":", "1/", "1:", "*",
		"\x00", "1\x00", "\xff", "1\xff", "\u0663", "1\u0663", "\uff11", "\u00b2", "1\ufffd",
	} {
		for _, most := range []int{math.MinInt, -1, 0, 9, api.MaxUID, math.MaxInt} {
			number(t, s, most, 0, false)
		}
	}
}

func TestP7_5EachByte(t *testing.T) {
	for c := range 256 {
		digit := c >= '0' && c <= '9'
		for _, around := range []struct{ ahead, behind string }{{"", ""}, {"1", ""}, {"", "5"}, {"3", "5"}, {"12345678", "0"}} {
			s := around.ahead + string([]byte{byte(c)}) + around.behind
			if digit && (s[0] != '0' || s == "0") {
				want, _ := strconv.Atoi(s)
				number(t, s, math.MaxInt, want, true)
			} else {
				number(t, s, math.MaxInt, 0, false)
			}
		}
	}
}

func TestExamples(t *testing.T) {
	encode(t, "", "")
	encode(t, "f", "Zg==")
	encode(t, "fo", "Zm8=")
	encode(t, "foo", "Zm9v")
	for _, s := range []string{"Zh==", "Zg=", "Zg==\n"} {
		noCode(t, s)
	}
	for text, want := range map[string]string{"": ".\r\n", ".a": "..a\r\n.\r\n", "a\r\n.": "a\r\n..\r\n.\r\n"} {
		if got := codec.Stuff([]byte(text)); !bytes.Equal(got, []byte(want)) {
			t.Errorf("%q: %q", text, got)
		}
	}
	quote(t, `a"b`, `"a\"b"`)
	quote(t, "", `""`)
	quote(t, "a\n", "{2}\r\na\n")
	number(t, "007", 9, 0, false)
	number(t, "10", 9, 0, false)
	number(t, "9", 9, 9, true)
	number(t, "", 9, 0, false)
}
