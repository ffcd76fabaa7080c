package lex

import (
	"math"
	"regexp"
	"slices"
	"strconv"
	"strings"
	"testing"

	"midstream/api"
)

// The lists of the chapter's section 'Words', written out once more.
const (
	keywords = "node returns var let tel if then else fby pre when unless merge not true false int bool"
	marks    = "<< >> <> <= >= -> ( ) : , ; = < > + - * / % & | ^"
)

// The shapes of the same section, as the model below asks for them.
var (
	skipShape   = regexp.MustCompile(`^([ \t\n\r]|--[^\n]*)*`)
	wordShape   = regexp.MustCompile(`^[a-z][a-z0-9_]*`)
	numberShape = regexp.MustCompile(`^[0-9]+`)
	markShape   = regexp.MustCompile(`^(<<|>>|<>|<=|>=|->|[():,;=<>+*/%&|^-])`)
)

// model is what Scan answers, found by the shapes.
func model(s string) ([]api.Token, api.Errno, int) {
	if len(s) > 4096 {
		return nil, api.ErrBig, 0
	}
	var out []api.Token
	for at := 0; ; {
		at += len(skipShape.FindString(s[at:]))
		if at == len(s) {
			return out, api.OK, 0
		}
		t, e := modelToken(s[at:])
		if e != api.OK {
			return nil, e, at
		}
		t.At = at
		out = append(out, t)
		at += len(t.Text)
	}
}

func modelToken(s string) (api.Token, api.Errno) {
	if w := wordShape.FindString(s); w != "" {
		if slices.Contains(strings.Fields(keywords), w) {
			return api.Token{Kind: api.KWord, Text: w}, api.OK
		}
		if len(w) > 16 {
			return api.Token{}, api.ErrBig
		}
		return api.Token{Kind: api.KName, Text: w}, api.OK
	}
	if d := numberShape.FindString(s); d != "" {
		n, err := strconv.ParseUint(d, 10, 31)
		if err != nil || d[0] == '0' && len(d) > 1 {
			return api.Token{}, api.ErrToken
		}
		return api.Token{Kind: api.KNum, Text: d, N: int32(n)}, api.OK
	}
	if m := markShape.FindString(s); m != "" {
		return api.Token{Kind: api.KMark, Text: m}, api.OK
	}
	return api.Token{}, api.ErrSign
}

// wantModel compares Scan with the model and tells whether there is no error.
func wantModel(t *testing.T, s string) bool {
	t.Helper()
	want, wantE, wantAt := model(s)
	got, e, at := Scan(s)
	if !slices.Equal(got, want) || e != wantE || at != wantAt {
		t.Fatalf("Scan(%.80q) = %v, %d, %d, want %v, %d, %d", s, got, e, at, want, wantE, wantAt)
	}
	return wantE == api.OK
}

// texts calls f with every sequence of count of the pieces.
func texts(pieces []string, count int, f func(s string)) {
	if count == 0 {
		f("")
		return
	}
	texts(pieces, count-1, func(s string) {
		for _, p := range pieces {
			f(s + p)
		}
	})
}

// singles are all bytes, each as a text.
func singles() []string {
	var out []string
	for b := range 256 {
		out = append(out, string([]byte{byte(b)}))
	}
	return out
}

// strangers are runes beside the ASCII ones: letters and digits of other alphabets, blanks, line ends, and those whose lowest byte is that of a letter, a digit, a blank or a mark.
func strangers() []string {
	return []string{
		"é", "ß", "а", "α", "ａ", "Ａ", "ª", "ſ", "١", "３", "²", "＿",
		"\u00a0", "\u0085", "\u2003", "\u2028", "\u3000", "\ufeff", "\ufffd",
		"\u0161", "\u017a", "\u0131", "\u0130", "\u015f", "\u0120", "\u010a", "\u0109", "\u010d", "\u012d", "\u013c", "\U00010061", "\U0001f600",
		"－", "–", "−", "≤", "→",
	}
}

// broken are bytes that are no rune.
func broken() []string {
	return []string{"\xff", "\x80", "\xc3", "\xe2\x82", "\xed\xa0\x80", "\xf8", "\xc0\x8a", "\xc1\xa1"}
}

// P12.1: the keywords, and what is near one.
func TestWord(t *testing.T) {
	words := strings.Fields(keywords)
	if len(words) != 18 {
		t.Fatal(len(words), "keywords")
	}
	for _, w := range words {
		if !Word(w) || Name(w) || Mark(w) {
			t.Errorf("%q: Word %v, Name %v, Mark %v, want true, false, false", w, Word(w), Name(w), Mark(w))
		}
		for _, s := range []string{w + "s", w + "_", w + "1", w + " ", " " + w, w + "\n", w + "\x00", w[1:], w[:len(w)-1], strings.ToUpper(w), strings.ToUpper(w[:1]) + w[1:], w + w, w + " " + w} {
			if Word(s) {
				t.Errorf("Word(%q)", s)
			}
		}
	}
	for _, s := range append(strings.Fields(marks), "", "a", "end", "const", "0", "nodes", "_", "--", keywords) {
		if Word(s) {
			t.Errorf("Word(%q)", s)
		}
	}
}

// P12.1: names, and texts that are none.
func TestName(t *testing.T) {
	for _, s := range []string{"a", "z", "az", "a0", "a9", "a_", "a__", "z9_", "x_1y", "a234567890123456", "a_______________", "zzzzzzzzzzzzzzzz", "nodes", "no", "i", "int_", "if1", "truefalse", "fby_pre"} {
		if !Name(s) || Word(s) || Mark(s) {
			t.Errorf("%q: Name %v, Word %v, Mark %v, want true, false, false", s, Name(s), Word(s), Mark(s))
		}
	}
	for _, s := range []string{"", "_", "_a", "0", "9", "0a", "1_", "A", "Z", "aB", "Ab", "a b", " a", "a ", "a\n", "\na", "a\x00", "a-", "a-b", "a--", "a.b", "a`", "a{", "a/", "a:", "->", "a234567890123456_", "a2345678901234567", "node", "bool"} {
		if Name(s) {
			t.Errorf("Name(%q)", s)
		}
	}
	for n := range 40 {
		s := strings.Repeat("k", n)
		if want := n >= 1 && n <= api.MaxName; Name(s) != want {
			t.Errorf("Name of %d bytes = %v", n, !want)
		}
	}
}

// P12.1: every byte at each place of a name, and runes of more bytes.
func TestNameBytes(t *testing.T) {
	for b := range 256 {
		c := string([]byte{byte(b)})
		letter := b >= 'a' && b <= 'z'
		inside := letter || b >= '0' && b <= '9' || b == '_'
		for s, want := range map[string]bool{
			c:                          letter,
			c + "x":                    letter,
			"x" + c:                    inside,
			"x" + c + c:                inside,
			"x_" + c + "y345678901234": inside,
			"x12345678901234" + c:      inside,
		} {
			if Name(s) != want {
				t.Errorf("Name(%q) = %v", s, !want)
			}
		}
	}
	for _, r := range append(strangers(), broken()...) {
		for _, s := range []string{r, r + "a", "a" + r, "a" + r + "a", "a1_" + r} {
			if Name(s) || Word(s) || Mark(s) {
				t.Errorf("%q: Name %v, Word %v, Mark %v, want false", s, Name(s), Word(s), Mark(s))
			}
		}
	}
}

// P12.1: the marks, and that no other text of up to three bytes is one.
func TestMark(t *testing.T) {
	all := map[string]bool{}
	for _, m := range strings.Fields(marks) {
		all[m] = true
		if !Mark(m) || Name(m) || Word(m) {
			t.Errorf("%q: Mark %v, Name %v, Word %v, want true, false, false", m, Mark(m), Name(m), Word(m))
		}
	}
	if len(all) != 22 {
		t.Fatal(len(all), "marks")
	}
	check := func(s string) {
		if Mark(s) != all[s] {
			t.Errorf("Mark(%q) = %v", s, Mark(s))
		}
	}
	check("")
	texts(singles(), 1, check)
	texts(singles(), 2, check)
	texts(strings.Split("()<>=-+*/%&|^:,; \n!~a", ""), 3, check)
	for _, s := range []string{"--", "<-", "=>", "==", "!=", "=<", "<->", "<<=", ">>>", "()", ".", "&&", "||", "≤", "→", "－", marks} {
		check(s)
	}
}

// P12.2: ordinary texts, with every token written out.
func TestScan(t *testing.T) {
	name := func(s string, at int) api.Token { return api.Token{Kind: api.KName, Text: s, At: at} }
	word := func(s string, at int) api.Token { return api.Token{Kind: api.KWord, Text: s, At: at} }
	mark := func(s string, at int) api.Token { return api.Token{Kind: api.KMark, Text: s, At: at} }
	num := func(s string, n int32, at int) api.Token {
		return api.Token{Kind: api.KNum, Text: s, N: n, At: at}
	}
	for _, c := range []struct {
		s    string
		want []api.Token
	}{
		{"", nil},
		{" \t\r\n", nil},
		{"--", nil},
		{"-- x 07 A \xff é", nil},
		{"---", nil},
		{"-->", nil},
		{"x<=10 -- y", []api.Token{name("x", 0), mark("<=", 1), num("10", 10, 3)}},
		{"a->-b", []api.Token{name("a", 0), mark("->", 1), mark("-", 3), name("b", 4)}},
		{"1a", []api.Token{num("1", 1, 0), name("a", 1)}},
		{"a1", []api.Token{name("a1", 0)}},
		{"0a", []api.Token{num("0", 0, 0), name("a", 1)}},
		{"0", []api.Token{num("0", 0, 0)}},
		{"2147483647", []api.Token{num("2147483647", math.MaxInt32, 0)}},
		{"-2147483647", []api.Token{mark("-", 0), num("2147483647", math.MaxInt32, 1)}},
		{"- 0 0", []api.Token{mark("-", 0), num("0", 0, 2), num("0", 0, 4)}},
		{"if ifx if1 if_ x_if", []api.Token{word("if", 0), name("ifx", 3), name("if1", 7), name("if_", 11), name("x_if", 15)}},
		{"iftrue", []api.Token{name("iftrue", 0)}},
		{"12then", []api.Token{num("12", 12, 0), word("then", 2)}},
		{"a234567890123456 unless", []api.Token{name("a234567890123456", 0), word("unless", 17)}},
		{"x--y\nz", []api.Token{name("x", 0), name("z", 5)}},
		{"x--y\r z\n--", []api.Token{name("x", 0)}},
		{"x- -y", []api.Token{name("x", 0), mark("-", 1), mark("-", 3), name("y", 4)}},
		{"x->--y\n-", []api.Token{name("x", 0), mark("->", 1), mark("-", 7)}},
		{"x<--y\n>", []api.Token{name("x", 0), mark("<", 1), mark(">", 6)}},
		{"--a\n--b\n\n -- c\nd", []api.Token{name("d", 15)}},
		{"-- é ≤ \xff\n=", []api.Token{mark("=", 12)}},
		{"<<=", []api.Token{mark("<<", 0), mark("=", 2)}},
		{"<<<", []api.Token{mark("<<", 0), mark("<", 2)}},
		{">>>=", []api.Token{mark(">>", 0), mark(">=", 2)}},
		{"<>=", []api.Token{mark("<>", 0), mark("=", 2)}},
		{"<=>", []api.Token{mark("<=", 0), mark(">", 2)}},
		{"><", []api.Token{mark(">", 0), mark("<", 1)}},
		{"=><=", []api.Token{mark("=", 0), mark(">", 1), mark("<=", 2)}},
		{"->>", []api.Token{mark("->", 0), mark(">", 2)}},
		{"->->", []api.Token{mark("->", 0), mark("->", 2)}},
		{"< <", []api.Token{mark("<", 0), mark("<", 2)}},
		{"y=0fby-x;", []api.Token{name("y", 0), mark("=", 1), num("0", 0, 2), word("fby", 3), mark("-", 6), name("x", 7), mark(";", 8)}},
		{"\tnode f(x:int)\r\n", []api.Token{word("node", 1), name("f", 6), mark("(", 7), name("x", 8), mark(":", 9), word("int", 10), mark(")", 13)}},
	} {
		if got, e, at := Scan(c.s); !slices.Equal(got, c.want) || e != api.OK || at != 0 {
			t.Errorf("Scan(%q) = %v, %d, %d, want %v, 0, 0", c.s, got, e, at, c.want)
		}
	}
}

// P12.2: each keyword and each mark alone, and every keyword with what may touch it.
func TestScanEach(t *testing.T) {
	one := func(s string, kind int) {
		want := []api.Token{{Kind: kind, Text: s, At: 1}}
		for _, behind := range []string{"", " ", "\t", "\n", "\r", "--", "-- x"} {
			if got, e, at := Scan(" " + s + behind); !slices.Equal(got, want) || e != api.OK || at != 0 {
				t.Errorf("Scan(%q) = %v, %d, %d, want %v", " "+s+behind, got, e, at, want)
			}
		}
	}
	for _, w := range strings.Fields(keywords) {
		one(w, api.KWord)
		one(w+"_", api.KName)
		for _, m := range strings.Fields(marks) {
			wantModel(t, m+w+m)
		}
	}
	for _, m := range strings.Fields(marks) {
		if m != "-" { // with -- behind it, it begins a comment itself
			one(m, api.KMark)
		}
	}
}

// P12.2: the errors and their offsets.
func TestScanErrors(t *testing.T) {
	long := "a2345678901234567"
	for _, c := range []struct {
		s  string
		e  api.Errno
		at int
	}{
		{"A", api.ErrSign, 0},
		{"let_ 07", api.ErrToken, 5},
		{"_", api.ErrSign, 0},
		{"_a", api.ErrSign, 0},
		{"1_", api.ErrSign, 1},
		{"aB", api.ErrSign, 1},
		{"ifX", api.ErrSign, 2},
		{"a é", api.ErrSign, 2},
		{"aé", api.ErrSign, 1},
		{"a\xffb", api.ErrSign, 1},
		{"x.y", api.ErrSign, 1},
		{"x != y", api.ErrSign, 2},
		{"\x00", api.ErrSign, 0},
		{"a\v", api.ErrSign, 1},
		{"a\f", api.ErrSign, 1},
		{"\ufeffnode", api.ErrSign, 0},
		{"x\u00a0y", api.ErrSign, 1},
		{"-- é\nA", api.ErrSign, 6},
		{"-- \xff\xfe\nx [", api.ErrSign, 8},
		{"--\rA\n B", api.ErrSign, 6},
		{"- -A", api.ErrSign, 3},

		{long, api.ErrBig, 0},
		{" \n" + long, api.ErrBig, 2},
		{"a " + long + " ", api.ErrBig, 2},
		{"1" + long, api.ErrBig, 1},
		{"unless_unless_unless", api.ErrBig, 0},
		{strings.Repeat("returns", 3), api.ErrBig, 0},
		{strings.Repeat("z", 4096), api.ErrBig, 0},

		{"07", api.ErrToken, 0},
		{"00", api.ErrToken, 0},
		{"-00", api.ErrToken, 1},
		{"x=01", api.ErrToken, 2},
		{"007a", api.ErrToken, 0},
		{"2147483648", api.ErrToken, 0},
		{"-2147483648", api.ErrToken, 1},
		{"4294967296", api.ErrToken, 0},
		{"4294967297", api.ErrToken, 0},
		{"9999999999", api.ErrToken, 0},
		{"9223372036854775808", api.ErrToken, 0},
		{"18446744073709551617", api.ErrToken, 0},
		{"12345678901234567", api.ErrToken, 0}, // more bytes than a name may have, but a number
		{strings.Repeat("9", 4096), api.ErrToken, 0},
		{strings.Repeat("0", 4096), api.ErrToken, 0},
	} {
		if got, e, at := Scan(c.s); len(got) != 0 || e != c.e || at != c.at {
			t.Errorf("Scan(%.40q) = %v, %d, %d, want none, %d, %d", c.s, got, e, at, c.e, c.at)
		}
	}
}

// P12.2: of several errors the first one from left to right, wherever the others are.
func TestScanFirstError(t *testing.T) {
	bad := map[string]api.Errno{"A": api.ErrSign, "\xc3": api.ErrSign, "é": api.ErrSign, "a2345678901234567": api.ErrBig, "07": api.ErrToken, "2147483648": api.ErrToken}
	for s, e := range bad {
		for other := range bad {
			for _, ahead := range []string{"", "x ", "--" + other + "\n", "<<\t"} {
				for _, between := range []string{" ", "\n", ";", " y -- z\n"} {
					text := ahead + s + between + other
					if got, gotE, at := Scan(text); len(got) != 0 || gotE != e || at != len(ahead) {
						t.Errorf("Scan(%q) = %v, %d, %d, want none, %d, %d", text, got, gotE, at, e, len(ahead))
					}
				}
			}
		}
	}
	// The end of a long name is the sign behind it, which is itself wrong.
	if _, e, at := Scan("a2345678901234567A"); e != api.ErrBig || at != 0 {
		t.Error(e, at)
	}
	if _, e, at := Scan("07A"); e != api.ErrToken || at != 0 {
		t.Error(e, at)
	}
}

// P12.2: a text of 4096 bytes is accepted; a longer one is too big, whatever else is wrong of it.
func TestScanLimit(t *testing.T) {
	for _, c := range []struct {
		ahead, fill string
	}{{"", " "}, {"", "\n"}, {"", "("}, {"--", "x"}, {"--", "é"}, {"--", "-"}, {"", "a "}, {"", "7\n"}, {"--", "\xff"}} {
		s := c.ahead + strings.Repeat(c.fill, (api.MaxText-len(c.ahead))/len(c.fill))
		if len(s) != 4096 {
			t.Fatalf("%q: %d bytes", c.fill, len(s))
		}
		if !wantModel(t, s) {
			t.Errorf("%q: an error at 4096 bytes", c.fill)
		}
		for _, more := range []string{s + " ", s + "\n", s + "A", s + s, "A" + s, "07 " + s, "é" + s} {
			if got, e, at := Scan(more); len(got) != 0 || e != api.ErrBig || at != 0 {
				t.Errorf("%q: %d tokens, %d, %d at %d bytes", c.fill, len(got), e, at, len(more))
			}
		}
	}
	if l, e, at := Scan(strings.Repeat("(", 4096)); len(l) != 4096 || e != api.OK || at != 0 {
		t.Error(len(l), e, at)
	}
	if l, e, at := Scan(strings.Repeat(" ", 4095) + "A"); len(l) != 0 || e != api.ErrSign || at != 4095 {
		t.Error(l, e, at)
	}
}

// P12.2: short texts of all bytes, and longer ones of fewer, against the model.
func TestScanShortTexts(t *testing.T) {
	accepted := 0
	check := func(s string) {
		if wantModel(t, s) {
			accepted++
		}
	}
	texts(singles(), 1, check)
	texts(singles(), 2, check)
	texts(append(strings.Split("az09_A<>=-+( \n\t\x00", ""), "\xc3", "é", "if"), 3, check)
	texts(strings.Split("-<>=a1\n ", ""), 5, check)
	if accepted < 10000 {
		t.Error(accepted, "texts without an error")
	}
}

// pieces are tokens of all kinds, blanks, comments and what begins no token.
func pieces() []string {
	return slices.Concat(strings.Fields(marks), strings.Fields(keywords), []string{
		"x", "a_1", "a234567890123456", "a2345678901234567", "0", "7", "12", "2147483647", "2147483648", "07",
		" ", "\n", "\t", "\r", "--", "-- if 1\n", "--é\xff", "A", "_", "é", "\xff", "\x00", "",
	})
}

// P12.2: every sequence of three pieces against the model.
func TestScanPieces(t *testing.T) {
	accepted := 0
	texts(pieces(), 3, func(s string) {
		if wantModel(t, s) {
			accepted++
		}
	})
	if accepted < 100000 {
		t.Error(accepted, "texts without an error")
	}
}

// P12.2: runes of more bytes are no token anywhere but in a comment.
func TestScanStrangers(t *testing.T) {
	for _, r := range append(strangers(), broken()...) {
		for _, ahead := range []string{"", "a", "a ", "1", "<", "-", "if", "-- x\n", "--\xe2\n"} {
			if got, e, at := Scan(ahead + r); len(got) != 0 || e != api.ErrSign || at != len(ahead) {
				t.Errorf("Scan(%q) = %v, %d, %d, want none, ErrSign, %d", ahead+r, got, e, at, len(ahead))
			}
		}
		want := []api.Token{{Kind: api.KName, Text: "b", At: 4 + 2*len(r)}}
		if got, e, at := Scan("--" + r + "x" + r + "\nb"); !slices.Equal(got, want) || e != api.OK || at != 0 {
			t.Errorf("a comment with %q: %v, %d, %d", r, got, e, at)
		}
	}
}

// P12.3: tokens of any texts, none, and that Text asks for nothing but the texts.
func TestText(t *testing.T) {
	for _, c := range []struct {
		texts []string
		want  string
	}{
		{nil, ""},
		{[]string{""}, ""},
		{[]string{"", ""}, " "},
		{[]string{"a"}, "a"},
		{[]string{"a", "b"}, "a b"},
		{[]string{"a", "", "b"}, "a  b"},
		{[]string{"", "a", ""}, " a "},
		{[]string{"x", "<=", "10"}, "x <= 10"},
		{[]string{" ", "\n", "\xff", "é", "--"}, "  \n \xff é --"},
		{[]string{strings.Repeat("a", 5000), "b"}, strings.Repeat("a", 5000) + " b"},
	} {
		var l []api.Token
		for i, s := range c.texts {
			l = append(l, api.Token{Kind: i*7 - 3, Text: s, N: math.MinInt32, At: math.MaxInt})
		}
		before := slices.Clone(l)
		if got := Text(l); got != c.want {
			t.Errorf("Text of %.80q = %.80q, want %.80q", c.texts, got, c.want)
		}
		if !slices.Equal(l, before) {
			t.Errorf("Text changed %v", before)
		}
	}
	if Text([]api.Token{}) != "" || Text(make([]api.Token, 3)) != "  " {
		t.Error("empty tokens")
	}
	many := Text(slices.Repeat([]api.Token{{Text: "ab"}}, 10000))
	if many != strings.TrimSuffix(strings.Repeat("ab ", 10000), " ") {
		t.Error(len(many))
	}
}

// unplaced are tokens without their offsets.
func unplaced(l []api.Token) []api.Token {
	out := slices.Clone(l)
	for i := range out {
		out[i].At = 0
	}
	return out
}

// P12.4: the Text of a token occurs at its offset, tokens do not overlap, and Text of the tokens has them again.
func TestTextOfTokens(t *testing.T) {
	texts(pieces(), 2, func(s string) {
		l, e, _ := Scan(s)
		if e != api.OK {
			return
		}
		end := 0
		for _, k := range l {
			if k.At < end || k.Text == "" || !strings.HasPrefix(s[k.At:], k.Text) {
				t.Errorf("Scan(%q): %v at %d", s, k, k.At)
			}
			end = k.At + len(k.Text)
		}
		again, e, at := Scan(Text(l))
		if !slices.Equal(unplaced(again), unplaced(l)) || e != api.OK || at != 0 {
			t.Errorf("Scan(%q) = %v, %d, %d, want the tokens of %q", Text(l), again, e, at, s)
		}
		if Text(again) != Text(l) {
			t.Errorf("Text of the tokens of %q is %q", Text(l), Text(again))
		}
	})
}

// P12.4: two texts with a byte 10 between them.
func TestJoinedTexts(t *testing.T) {
	parts := []string{"-", "--", "-- x", "x", "if", "x1", "12", "<", "->", "x -", " ", "", "\r", "a--b\nc", "-- é", "y = 0 fby y + 1;"}
	for _, a := range parts {
		for _, b := range parts {
			first, _, _ := Scan(a)
			second, _, _ := Scan(b)
			want := slices.Clone(first)
			for _, k := range second {
				k.At += len(a) + 1
				want = append(want, k)
			}
			if got, e, at := Scan(a + "\n" + b); !slices.Equal(got, want) || e != api.OK || at != 0 {
				t.Errorf("Scan(%q) = %v, %d, %d, want %v", a+"\n"+b, got, e, at, want)
			}
		}
	}
}

// R4: what a caller does to a result changes no other one.
func TestNewMemory(t *testing.T) {
	s := "node f (x : int) returns (y : int); let y = 10 fby y + x; tel"
	want, _, _ := model(s)
	l, _, _ := Scan(s)
	other, _, _ := Scan(s)
	l = l[:cap(l)]
	for i := range l {
		l[i] = api.Token{Kind: 9, Text: "spoilt", N: 9, At: 9}
	}
	again, _, _ := Scan(s)
	if !slices.Equal(other, want) || !slices.Equal(again, want) {
		t.Error(other, again)
	}
}

// R1: long texts end every function, and none of them panics.
func TestLongTexts(t *testing.T) {
	for _, piece := range []string{"a", "7", " ", "-", "--\n", "<", "\xff", "é", "A", "_"} {
		s := strings.Repeat(piece, 1<<20)
		if Word(s) || Name(s) || Mark(s) {
			t.Errorf("%q, repeated", piece)
		}
		if l, e, at := Scan(s); len(l) != 0 || e != api.ErrBig || at != 0 {
			t.Errorf("%q, repeated: %d tokens, %d, %d", piece, len(l), e, at)
		}
		wantModel(t, s[:4096])
	}
}
