package lex_test

import (
	"math/rand"
	"regexp"
	"slices"
	"strings"
	"testing"

	"chattel/api"
	"chattel/lex"
)

const (
	allBlanks = " \t\n\r"
	allSigns  = "{}=;,"
	lower     = "abcdefghijklmnopqrstuvwxyz"
	figures   = "0123456789"
)

// has checks that a text's tokens are these.
func has(t *testing.T, s string, want ...lex.Token) {
	t.Helper()
	l, at, e := lex.Lex(s)
	if !slices.Equal(l, want) || at != 0 || e != api.OK {
		t.Errorf("P8.1: Lex of %.80q: %.300v, %d, error %d, want %.300v", s, l, at, e, want)
	}
}

// wrong checks that a text is refused at that place.
func wrong(t *testing.T, s string, place int, want api.Errno) {
	t.Helper()
	l, at, e := lex.Lex(s)
	if len(l) != 0 || at != place || e != want {
		t.Errorf("P8.1: Lex of %.80q: %d tokens, %d, error %d, want none, %d, error %d", s, len(l), at, e, place, want)
	}
}

// alone checks that a text is one token, wherever it stands.
func alone(t *testing.T, kind lex.Kind, text string) {
	t.Helper()
	has(t, text, lex.Token{Kind: kind, Text: text})
	for _, between := range []string{" ", "\t", "\n", "\r", " \r\n\t", "#\n", "#a 1\n", "# é\xff\x00\n\n #\n"} {
		n := len(between)
		has(t, between+text+between, lex.Token{Kind: kind, Text: text, At: n})
		has(t, text+between+text, lex.Token{Kind: kind, Text: text}, lex.Token{Kind: kind, Text: text, At: len(text) + n})
		has(t, "a"+between+text, lex.Token{Text: "a"}, lex.Token{Kind: kind, Text: text, At: 1 + n})
	}
	has(t, ";"+text+";", lex.Token{Kind: lex.Sign, Text: ";"}, lex.Token{Kind: kind, Text: text, At: 1}, lex.Token{Kind: lex.Sign, Text: ";", At: 1 + len(text)})
	has(t, text+"#"+text, lex.Token{Kind: kind, Text: text})
}

// noNumber checks that what begins as a number is refused, wherever it stands.
func noNumber(t *testing.T, text string) {
	t.Helper()
	wrong(t, text, 0, api.ErrNumber)
	for _, ahead := range []string{" ", "a ", "; ", "1 ", "2024-02-29\t", "{", "=", "# 1\n", "a#\n", "\r\n\t "} {
		for _, behind := range []string{"", " ", ";", "a", "#", " 1", " 01", "A", "\x00", "é", "\xff"} {
			wrong(t, ahead+text+behind, len(ahead), api.ErrNumber)
		}
	}
}

func TestKinds(t *testing.T) {
	if lex.Word != 0 || lex.Number != 1 || lex.Date != 2 || lex.Sign != 3 {
		t.Errorf("the kinds are %d, %d, %d, %d", lex.Word, lex.Number, lex.Date, lex.Sign)
	}
}

func TestNothing(t *testing.T) {
	for _, s := range []string{
		"", " ", "\t", "\n", "\r", "\r\n", "   ", " \t\n\r", "\n\n\n", "\r\r", allBlanks + allBlanks,
		"#", "##", "#\n", "# ", "# \n", "#\n#", "#\n#\n", "# only\n#", "# a = 1; 01 A\x00\n", "#\r", "#\r\n", " # \n\t#\n\r#", "#\n\n", "\n#", "#é", "#é\n", "#\xff\xfe", "#\xc3\n", "#\xe2\x82\n", "#\xf0\x9f\x98\n#\xf0", "#\x00\x01", "# 1.2.3", "#-\n", "#\u2028", "#\u0085\v\f",
	} {
		has(t, s)
	}
}

// TestBytes: each byte, as a text of its own, and between two words.
func TestBytes(t *testing.T) {
	for b := range 256 {
		c := string([]byte{byte(b)})
		first, last := lex.Token{Text: "x"}, lex.Token{Text: "y", At: 2}
		switch {
		case strings.Contains(allBlanks, c):
			has(t, c)
			has(t, "x"+c+"y", first, last)
		case c == "#":
			has(t, c)
			has(t, "x"+c+"y", first)
		case strings.Contains(lower, c):
			has(t, c, lex.Token{Text: c})
			has(t, "x"+c+"y", lex.Token{Text: "x" + c + "y"})
		case strings.Contains(figures, c):
			has(t, c, lex.Token{Kind: lex.Number, Text: c})
			has(t, "x"+c+"y", lex.Token{Text: "x" + c + "y"})
			has(t, c+"y", lex.Token{Kind: lex.Number, Text: c}, lex.Token{Text: "y", At: 1})
		case strings.Contains(allSigns, c):
			has(t, c, lex.Token{Kind: lex.Sign, Text: c})
			has(t, "x"+c+"y", first, lex.Token{Kind: lex.Sign, Text: c, At: 1}, last)
		case c == "-":
			wrong(t, c, 0, api.ErrNumber)
			has(t, "x"+c+"y", lex.Token{Text: "x-y"})
		default:
			notBegun(t, c)
		}
	}
}

// notBegun checks a text with whose first byte no token begins, wherever it stands.
func notBegun(t *testing.T, c string) {
	t.Helper()
	for _, ahead := range []string{"", " ", "x", "x ", "x1-", "{", "{x=", "# x\n", "#\n\n", "2024-02-29 ", "1 ", "-1;"} {
		for _, behind := range []string{"", " ", "y", "1", "#", "\n", "=;", "01", "A"} {
			wrong(t, ahead+c+behind, len(ahead), api.ErrSyntax)
		}
	}
	if c[0] != '.' {
		wrong(t, "1"+c, 1, api.ErrSyntax)
		wrong(t, "2024-02-29"+c, 10, api.ErrSyntax)
	}
}

func TestNoToken(t *testing.T) {
	for _, c := range []string{
		"A", "Z", "M", "@", "[", "`", "|", "~", "/", ":", ".", ".5", "+", "+1", "*", "(", ")", "<", ">", "!", "?", "\"", "'", "$", "%", "&", "\\", "^", "_", "\x00", "\x01", "\x08", "\v", "\f", "\x0e", "\x1f", "\x7f",
		"é", "ä", "ß", "ａ", "１", "٣", "€", "😀", "−1", "–", "\u00a0", "\u0085", "\u2028", "\ufeff", "\ufffd", "\x80", "\xa0", "\xc3", "\xff", "\xe2\x82", "\xf0\x9f\x98",
		// Runes whose lowest byte is one of a token's, or a blank's.
		"š", "İ", "İ1", "Ġ", "ħ", "ĭ", "Į", "Ļ", "Ľ", "Ż", "Ž", "ģ",
	} {
		notBegun(t, c)
	}
}

func TestWords(t *testing.T) {
	for _, s := range []string{
		"a", "z", "rate", "half-even", "a-", "a--", "a---b", "a1-", "a1", "a0", "z9", "a-1", "a-0", "a01", "a007", "a2024-02-29", "x-2024", lower, "a" + figures, "a-" + figures + "-" + lower + "-", "due", "loan", "q-q-q",
		strings.Repeat("a", api.MaxDigits+1), "a" + strings.Repeat("-", 10000), "a" + strings.Repeat("9", 10000),
	} {
		alone(t, lex.Word, s)
		has(t, s+s, lex.Token{Text: s + s})
		wrong(t, s+"A", len(s), api.ErrSyntax)
		wrong(t, s+".", len(s), api.ErrSyntax)
		wrong(t, s+".5", len(s), api.ErrSyntax)
		wrong(t, s+"_", len(s), api.ErrSyntax)
		wrong(t, s+"é", len(s), api.ErrSyntax)
		wrong(t, s+"\xff", len(s), api.ErrSyntax)
	}
}

func TestNumbers(t *testing.T) {
	for _, s := range []string{
		"0", "1", "9", "10", "100", "12345678901234567890123", "0.0", "0.00", "0.5", "0.05", "1.0", "1.50", "4.25", "10.01", "100.00", "0.000000001",
		"-1", "-9", "-10", "-12345678901234567890123", "-0.5", "-0.05", "-1.0", "-3.50", "-10.01", "-100.00", "2024", "20240229", "2024.02", "-2024", "9999999999",
		"0." + strings.Repeat("0", api.MaxScale), "0." + strings.Repeat("7", api.MaxScale), "-12." + strings.Repeat("0", api.MaxScale), strings.Repeat("9", api.MaxDigits), "-" + strings.Repeat("9", api.MaxDigits-1), strings.Repeat("9", api.MaxDigits-3) + ".00", "-1" + strings.Repeat("0", api.MaxDigits-4) + ".5",
	} {
		alone(t, lex.Number, s)
		has(t, s+"a", lex.Token{Kind: lex.Number, Text: s}, lex.Token{Text: "a", At: len(s)})
		has(t, s+"e5", lex.Token{Kind: lex.Number, Text: s}, lex.Token{Text: "e5", At: len(s)})
	}
}

func TestNoNumbers(t *testing.T) {
	for _, s := range []string{
		"-", "--", "---", "-.", "-.5", "--1", "--0.5", "-.-", "-..", "1.", "0.", "-1.", "-0.", "1..", "1..2", "1.2.3", "1.5.2", "1.2.", "0.0.0", "1-", "1--", "1-2", "1.5-", "1.-5", "1.5-2", "-1-", "-1-2", "1-2-3", "0-0", "0-",
		"00", "01", "007", "-01", "-00", "00.5", "01.5", "-01.5", "000", "-0", "-0.0", "-0.000", "-00.5",
		"0." + strings.Repeat("0", api.MaxScale+1), "1." + strings.Repeat("7", api.MaxScale+1), "-1." + strings.Repeat("7", api.MaxScale+1), "0." + strings.Repeat("1", 1000), "-0." + strings.Repeat("0", api.MaxScale+1),
		strings.Repeat("9", api.MaxDigits+1), "-" + strings.Repeat("9", api.MaxDigits), strings.Repeat("9", api.MaxDigits-2) + ".00", strings.Repeat("9", 100000), strings.Repeat("-", 100000), "1" + strings.Repeat(".", 100000), strings.Repeat("0", 100000),
	} {
		noNumber(t, s)
	}
}

func TestDates(t *testing.T) {
	for _, s := range []string{"2024-02-29", "0001-01-01", "9999-12-31", "0000-00-00", "9999-99-99", "2023-02-30", "1234-56-78", "0000-13-00"} {
		alone(t, lex.Date, s)
		has(t, s+"a", lex.Token{Kind: lex.Date, Text: s}, lex.Token{Text: "a", At: 10})
		has(t, s+","+s, lex.Token{Kind: lex.Date, Text: s}, lex.Token{Kind: lex.Sign, Text: ",", At: 10}, lex.Token{Kind: lex.Date, Text: s, At: 11})
	}
}

// TestNearlyDates: a digit too few or too many, other bytes for the minus signs, or more behind.
func TestNearlyDates(t *testing.T) {
	for _, s := range []string{
		"024-02-29", "02024-02-29", "12024-02-29", "2024-2-29", "2024-002-29", "2024-02-9", "2024-02-029", "2024-02-290", "2024-02-", "2024-02", "2024-", "2024-0229", "202402-29", "202-402-29", "20240-2-29", "2024-02-2", "2024--2-29", "2024-0--29", "2024-02--9", "2024-02-2-", "-024-02-29",
		"2024.02.29", "2024-02.29", "2024.02-29", "2024-02-2.", "2024-02-.9", "2024-.2-29", "2.24-02-29", "2024-0.-29", "202.-02-29", "----------", "0000000000",
		"-2024-02-29", "--2024-02-29", "2024-02-29-", "2024-02-29.", "2024-02-29.5", "2024-02-29-2024-02-29", "2024-02-292024-02-29", "2024-02-29-01", "0-2024-02-29",
	} {
		noNumber(t, s)
	}
	for _, s := range []string{"1234567890", "2024.02290", "2024022.29", "-202402.29", "1234.00000"} {
		alone(t, lex.Number, s) // As long as a date, and a number.
	}
	for _, other := range []string{"/", "_", ":", "+", "−", "\x80"} {
		wrong(t, "2024"+other+"02"+other+"29", 4, api.ErrSyntax)
		wrong(t, "2024-02"+other+"29", 0, api.ErrNumber)
	}
	for _, other := range []string{" ", "\t", "\n", "\r"} {
		has(t, "2024"+other+"12"+other+"29", lex.Token{Kind: lex.Number, Text: "2024"}, lex.Token{Kind: lex.Number, Text: "12", At: 5}, lex.Token{Kind: lex.Number, Text: "29", At: 8})
	}
}

func TestSigns(t *testing.T) {
	for _, c := range allSigns {
		alone(t, lex.Sign, string(c))
	}
	var all []lex.Token
	for at, c := range allSigns + allSigns {
		all = append(all, lex.Token{Kind: lex.Sign, Text: string(c), At: at})
	}
	has(t, allSigns+allSigns, all...)
	has(t, "==", lex.Token{Kind: lex.Sign, Text: "="}, lex.Token{Kind: lex.Sign, Text: "=", At: 1})
}

// TestNothingBetween: tokens that follow on one another are as long as possible each.
func TestNothingBetween(t *testing.T) {
	has(t, "rate=4.25; # yes", lex.Token{Text: "rate"}, lex.Token{Kind: lex.Sign, Text: "=", At: 4}, lex.Token{Kind: lex.Number, Text: "4.25", At: 5}, lex.Token{Kind: lex.Sign, Text: ";", At: 9})
	has(t, "2024-02-29a-1", lex.Token{Kind: lex.Date, Text: "2024-02-29"}, lex.Token{Text: "a-1", At: 10})
	has(t, "1a2{3b-4}-5c,2024-01-31d", lex.Token{Kind: lex.Number, Text: "1"}, lex.Token{Text: "a2", At: 1}, lex.Token{Kind: lex.Sign, Text: "{", At: 3}, lex.Token{Kind: lex.Number, Text: "3", At: 4}, lex.Token{Text: "b-4", At: 5}, lex.Token{Kind: lex.Sign, Text: "}", At: 8}, lex.Token{Kind: lex.Number, Text: "-5", At: 9}, lex.Token{Text: "c", At: 11}, lex.Token{Kind: lex.Sign, Text: ",", At: 12}, lex.Token{Kind: lex.Date, Text: "2024-01-31", At: 13}, lex.Token{Text: "d", At: 23})
	has(t, "x=-1.50;", lex.Token{Text: "x"}, lex.Token{Kind: lex.Sign, Text: "=", At: 1}, lex.Token{Kind: lex.Number, Text: "-1.50", At: 2}, lex.Token{Kind: lex.Sign, Text: ";", At: 7})
	has(t, "x-1;", lex.Token{Text: "x-1"}, lex.Token{Kind: lex.Sign, Text: ";", At: 3})
}

func TestRemarks(t *testing.T) {
	x, y := lex.Token{Text: "x"}, lex.Token{Text: "y"}
	for _, between := range []string{"#\n", "# \n", "#y\n", "##\n", "#\n#\n", "# x\r\n", " # 01 A é \xff \x00\n ", "#\xc3\n", "#\xe2\x82\n", "#\xf0\x9f\x98\n", "#\xff\n", "# {\n\n"} {
		y.At = 1 + len(between)
		has(t, "x"+between+"y", x, y)
		has(t, "x"+between+"y#", x, y)
		has(t, "x"+between+"y # z", x, y)
		has(t, "x"+between+"y # z\n", x, y)
	}
	for _, behind := range []string{"#", "#y", "# y\r y", "#\ry", "#\u2028y", "#\u0085y", "#\vy\fy", "# # y"} {
		has(t, "x"+behind, x)
		has(t, "x "+behind, x)
	}
	has(t, "1#\n2", lex.Token{Kind: lex.Number, Text: "1"}, lex.Token{Kind: lex.Number, Text: "2", At: 3})
	has(t, "2024-02-29#2024-02-29", lex.Token{Kind: lex.Date, Text: "2024-02-29"})
	wrong(t, "# A\nA", 4, api.ErrSyntax)
	wrong(t, "# 01\n01", 5, api.ErrNumber)
	wrong(t, "1.#\n5", 0, api.ErrNumber)
	wrong(t, "-#\n5", 0, api.ErrNumber)
}

func TestFirstFromTheLeft(t *testing.T) {
	wrong(t, "a A 01", 2, api.ErrSyntax)
	wrong(t, "a 01 A", 2, api.ErrNumber)
	wrong(t, "01A", 0, api.ErrNumber)
	wrong(t, "1A01", 1, api.ErrSyntax)
	wrong(t, "1.2.3é", 0, api.ErrNumber)
	wrong(t, "é1.2.3", 0, api.ErrSyntax)
	wrong(t, "x: - :", 1, api.ErrSyntax)
	wrong(t, "x = -; y : z", 4, api.ErrNumber)
	wrong(t, "a\nb\nc ?", 6, api.ErrSyntax)
	wrong(t, "a é b \xff", 2, api.ErrSyntax)
}

// filled is a text of so many bytes, with a beginning and an end, made of a piece.
func filled(size int, ahead, piece, behind string) string {
	room := size - len(ahead) - len(behind)
	return ahead + strings.Repeat(piece, room/len(piece)+1)[:room] + behind
}

func TestLong(t *testing.T) {
	size := api.MaxText
	has(t, filled(size, "", " ", ""))
	has(t, filled(size, "", "\n", ""))
	has(t, filled(size, "#", "é\xff", ""))
	has(t, filled(size, "x", " ", "y"), lex.Token{Text: "x"}, lex.Token{Text: "y", At: size - 1})
	has(t, filled(size, "x #", "A", "\n-5"), lex.Token{Text: "x"}, lex.Token{Kind: lex.Number, Text: "-5", At: size - 2})
	word := filled(size, "w", "o-0", "")
	has(t, word, lex.Token{Text: word})
	wrong(t, filled(size, "", " ", "A"), size-1, api.ErrSyntax)
	wrong(t, filled(size, "", " ", "é"), size-2, api.ErrSyntax)
	wrong(t, filled(size, "", "a ", "01"), size-2, api.ErrNumber)
	wrong(t, filled(size, "", "9", ""), 0, api.ErrNumber)
	wrong(t, filled(size, "A", "A", ""), 0, api.ErrSyntax)
	for _, piece := range []string{" ", "a", "a ", "9", "-", "A", ";", "#", "\n", "\x00", "\xff", "é", "1.5 "} {
		for _, more := range []int{1, 2, 100000} {
			wrong(t, filled(size+more, "", piece, ""), 0, api.ErrLong)
		}
	}
}

// TestManyTokens: a text of MaxText bytes with as many tokens as there can be.
func TestManyTokens(t *testing.T) {
	s := filled(api.MaxText, "", allSigns, "")
	l, at, e := lex.Lex(s)
	if len(l) != len(s) || at != 0 || e != api.OK {
		t.Fatalf("P8.1: %d tokens, %d, error %d", len(l), at, e)
	}
	for i, x := range l {
		if want := (lex.Token{Kind: lex.Sign, Text: s[i : i+1], At: i}); x != want {
			t.Fatalf("P8.1: the token %d is %v, want %v", i, x, want)
		}
	}
	joined := lex.Join(l)
	if len(joined) != 2*len(s)-1 || strings.ReplaceAll(joined, " ", "") != s {
		t.Errorf("P8.2: %d bytes", len(joined))
	}
	wrong(t, joined, 0, api.ErrLong)
	again(t, s[:len(s)/2])
}

func TestJoin(t *testing.T) {
	for _, x := range []struct {
		texts []string
		want  string
	}{
		{nil, ""}, {[]string{}, ""}, {[]string{"a"}, "a"}, {[]string{""}, ""}, {[]string{"", ""}, " "}, {[]string{"", "", ""}, "  "}, {[]string{"a", ""}, "a "}, {[]string{"", "a"}, " a"}, {[]string{"a", "", "b"}, "a  b"},
		{[]string{"a", "=", "1"}, "a = 1"}, {[]string{"rate", "=", "4.25", ";"}, "rate = 4.25 ;"}, {[]string{" ", "\n", "#"}, "  \n #"}, {[]string{"é", "\xff", "\x00"}, "é \xff \x00"}, {[]string{"a b", " c "}, "a b  c "}, {[]string{"-", "01", "A"}, "- 01 A"},
		{[]string{strings.Repeat("x", api.MaxText), "y", strings.Repeat("z", api.MaxText)}, strings.Repeat("x", api.MaxText) + " y " + strings.Repeat("z", api.MaxText)},
	} {
		var l []lex.Token
		for i, text := range x.texts {
			l = append(l, lex.Token{Kind: lex.Kind(i*3 - 4), Text: text, At: 7 - 5*i})
		}
		kept := slices.Clone(l)
		if got := lex.Join(l); got != x.want {
			t.Errorf("P8.2: Join of %.80q: %.80q", x.texts, got)
		}
		if !slices.Equal(l, kept) {
			t.Errorf("P8.2: Join of %.80q changed the tokens", x.texts)
		}
	}
}

// TestJoinWithinLength: what lies behind a list's length is not read.
func TestJoinWithinLength(t *testing.T) {
	l := []lex.Token{{Text: "a"}, {Text: "b"}, {Text: "c"}}
	if got := lex.Join(l[:2]); got != "a b" {
		t.Errorf("P8.2: %q", got)
	}
	if got := lex.Join(l[:0]); got != "" {
		t.Errorf("P8.2: %q", got)
	}
}

// TestNewMemory: the tokens of one answer are not those of another one.
func TestNewMemory(t *testing.T) {
	a, _, _ := lex.Lex("x 1")
	b, _, _ := lex.Lex("x 1")
	a[0], a[1] = lex.Token{}, lex.Token{}
	has(t, "x 1", b...)
	if b[0].Text != "x" || b[1].Text != "1" {
		t.Errorf("two answers share their tokens: %v", b)
	}
}

// placeless are tokens without their places.
func placeless(l []lex.Token) []lex.Token {
	l = slices.Clone(l)
	for i := range l {
		l[i].At = 0
	}
	return l
}

// again checks that a text's tokens, joined, are lexed to these again, but for their places.
func again(t *testing.T, s string) {
	t.Helper()
	l, _, e := lex.Lex(s)
	if e != api.OK {
		t.Errorf("P8.3: %.80q isn't lexed: error %d", s, e)
		return
	}
	joined := lex.Join(l)
	twice, at, e := lex.Lex(joined)
	if !slices.Equal(placeless(twice), placeless(l)) || at != 0 || e != api.OK {
		t.Errorf("P8.3: %.80q, joined to %.80q: %.300v, %d, error %d", s, joined, twice, at, e)
		return
	}
	place := 0
	for i, x := range twice {
		if x.At != place {
			t.Errorf("P8.1: the token %d of %.80q is at %d, want %d", i, joined, x.At, place)
			return
		}
		place += len(x.Text) + 1
	}
	if lex.Join(twice) != joined {
		t.Errorf("P8.3: %.80q is joined otherwise again", joined)
	}
}

func TestAgain(t *testing.T) {
	for _, s := range []string{
		"", " ", "# x", "#\n", "a", "a-", "a- -1", "1", "-1", "-0.50", "2024-02-29", "9999-99-99", ";", allSigns,
		"rate=4.25; # yes", "2024-02-29 -3.50{half-even}a1-", "x#y\nz", "1a", "1a2b", "2024-02-29a", "a{b}c=1;d,-2,2024-01-01", "-1;-2;-3", "1 -1", "1 2024-02-29 -1.5 a",
		"loan { principal = 1000.00; rate = 4.25; kind = annuity; basis = thirty; round = half-up; start = 2024-01-01; every = 1; count = 12; }", "loan{principal=1000.00;rate=4.25;}# end", "pay 2024-02-01 due; reset 2024-03-15 5.5;\n# later\npass 2024-04-01;",
		strings.Repeat("9", api.MaxDigits) + ";" + strings.Repeat("a", api.MaxDigits+1), strings.Repeat("1a", 1000), strings.Repeat("2024-02-29,-1.5#x\n", 1000),
	} {
		again(t, s)
	}
}

// The reference lexer's patterns: the same words by other means.
var (
	gapHere    = regexp.MustCompile(`^(?s:[ \t\n\r]|#[^\n]*)*`)
	wordHere   = regexp.MustCompile(`^[a-z][a-z0-9-]*`)
	figureHere = regexp.MustCompile(`^[0-9-][0-9.-]*`)
	signHere   = regexp.MustCompile(`^[{}=;,]`)
	dateWhole  = regexp.MustCompile(`^[0-9]{4}-[0-9]{2}-[0-9]{2}$`)
	numWhole   = regexp.MustCompile(`^-?(0|[1-9][0-9]*)(\.[0-9]{1,64})?$`)
	minusNone  = regexp.MustCompile(`^-[0.]+$`)
)

func isNumber(text string) bool {
	return len(text) <= api.MaxDigits && numWhole.MatchString(text) && !minusNone.MatchString(text)
}

// reference lexes a text by the patterns.
func reference(s string) ([]lex.Token, int, api.Errno) {
	var l []lex.Token
	at := len(gapHere.FindString(s))
	for at < len(s) {
		x := lex.Token{At: at}
		word, figure, sign := wordHere.FindString(s[at:]), figureHere.FindString(s[at:]), signHere.FindString(s[at:])
		switch x.Text = word + figure + sign; {
		case x.Text == "":
			return nil, at, api.ErrSyntax
		case word != "":
			x.Kind = lex.Word
		case sign != "":
			x.Kind = lex.Sign
		case dateWhole.MatchString(figure):
			x.Kind = lex.Date
		case isNumber(figure):
			x.Kind = lex.Number
		default:
			return nil, at, api.ErrNumber
		}
		l = append(l, x)
		at += len(x.Text)
		at += len(gapHere.FindString(s[at:]))
	}
	return l, 0, api.OK
}

// TestAgainstReference: texts made by chance, of pieces that are mostly tokens.
func TestAgainstReference(t *testing.T) {
	pieces := []string{
		"a", "z9", "half-even", "a-", "x1-", "0", "1", "-1", "1.5", "-3.50", "0.05", "2024-02-29", "0001-01-01", "{", "}", "=", ";", ",", " ", "  ", "\t", "\n", "\r\n", "# x\n", "#\n", "#1 é\xff\n", " ", "\n", ";",
		"-", ".", "0", "9", "A", "é", "\xff", "\x00", "01", "1.", "#", "-0", "2024-02-", "?",
	}
	const tokensAndBlanks = 29
	source := rand.New(rand.NewSource(8))
	right := 0
	for i := range 60000 {
		among := tokensAndBlanks
		if i%3 == 0 {
			among = len(pieces)
		}
		var s strings.Builder
		for range source.Intn(12) {
			s.WriteString(pieces[source.Intn(among)])
		}
		want, place, wantError := reference(s.String())
		l, at, e := lex.Lex(s.String())
		if !slices.Equal(l, want) || at != place || e != wantError {
			t.Errorf("P8.1: Lex of %q: %v, %d, error %d, want %v, %d, error %d", s.String(), l, at, e, want, place, wantError)
		}
		if wantError == api.OK {
			right++
			again(t, s.String())
		}
	}
	if right < 10000 {
		t.Errorf("only %d texts had no error", right)
	}
}

// TestShortTexts: all texts of up to four bytes out of some of each sort.
func TestShortTexts(t *testing.T) {
	const some = "az09-. \n#{;A\x00\xc3\xa9"
	texts := []string{""}
	for from := 0; from < len(texts); from++ {
		s := texts[from]
		want, place, wantError := reference(s)
		l, at, e := lex.Lex(s)
		if !slices.Equal(l, want) || at != place || e != wantError {
			t.Errorf("P8.1: Lex of %q: %v, %d, error %d, want %v, %d, error %d", s, l, at, e, want, place, wantError)
		}
		for i := range len(some) {
			if len(s) < 4 {
				texts = append(texts, s+some[i:i+1])
			}
		}
	}
}
