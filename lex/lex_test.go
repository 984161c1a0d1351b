package lex_test

import (
	"bytes"
	"fmt"
	"math"
	"math/rand"
	"regexp"
	"slices"
	"strings"
	"testing"
	"unsafe"

	"prompter/api"
	"prompter/lex"
)

const (
	letters = "abcdefghijklmnopqrstuvwxyzABCDEFGHIJKLMNOPQRSTUVWXYZ"
	digits  = "0123456789"
	signs   = "{}()[]=:;,"
	blanks  = " \t\n"
)

// name, number, sign and end make the tokens that are wanted.
func name(at int, s string) lex.Token   { return lex.Token{Kind: lex.Name, At: at, Text: s} }
func number(at int, s string) lex.Token { return lex.Token{Kind: lex.Number, At: at, Text: s} }
func sign(at int, s string) lex.Token   { return lex.Token{Kind: lex.Sign, At: at, Text: s} }
func end(at int) lex.Token              { return lex.Token{Kind: lex.End, At: at} }

// wantTokens checks that Split(s) returns these tokens, and 0.
func wantTokens(t *testing.T, s string, want ...lex.Token) {
	t.Helper()
	got, at, e := lex.Split(s)
	if !slices.Equal(got, want) || at != 0 || e != api.OK {
		t.Errorf("Split(%.60q): %v, error %d at %d, want %v", s, got, e, at, want)
	}
}

// wantError checks that Split(s) returns this error and offset, and no tokens.
func wantError(t *testing.T, s string, at int, e api.Errno) {
	t.Helper()
	tokens, gotAt, got := lex.Split(s)
	if len(tokens) != 0 || gotAt != at || got != e {
		t.Errorf("Split(%.60q): %d tokens, error %d at %d, want error %d at %d", s, len(tokens), got, gotAt, e, at)
	}
}

// The patterns by which the tests split a text on their own.
var (
	piece = regexp.MustCompile(`^(?:([ \t\n]+|#[^\n]*)|([a-zA-Z][a-zA-Z0-9]*)|([0-9]+)|([{}()\[\]=:;,]))`)
	plain = regexp.MustCompile(`^(?:0|[1-9][0-9]{0,9})$`)
)

// split is what the chapter says of a text of at most 4000 bytes.
func split(s string) ([]lex.Token, int, api.Errno) {
	var list []lex.Token
	at := 0
	for at < len(s) {
		m := piece.FindStringSubmatch(s[at:])
		switch {
		case m == nil:
			return nil, at, api.ErrToken
		case m[2] != "":
			list = append(list, name(at, m[2]))
		case m[3] != "" && !plain.MatchString(m[3]):
			return nil, at, api.ErrNumber
		case m[3] != "":
			list = append(list, number(at, m[3]))
		case m[4] != "":
			list = append(list, sign(at, m[4]))
		}
		at += len(m[0])
	}
	return append(list, end(at)), 0, api.OK
}

// wantSplit compares Split with the test's own split.
func wantSplit(t *testing.T, s string) {
	t.Helper()
	tokens, at, e := split(s)
	if e != api.OK {
		wantError(t, s, at, e)
		return
	}
	wantTokens(t, s, tokens...)
}

func TestP4_1Kinds(t *testing.T) {
	for want, k := range []lex.Kind{lex.End, lex.Name, lex.Number, lex.Sign, lex.Kinds} {
		if int(k) != want {
			t.Errorf("kind %d has number %d", want, k)
		}
	}
}

func TestP4_1LetterDigit(t *testing.T) {
	for c := range 256 {
		b := byte(c)
		if got, want := lex.Letter(b), bytes.IndexByte([]byte(letters), b) >= 0; got != want {
			t.Errorf("Letter(%q): %v", b, got)
		}
		if got, want := lex.Digit(b), bytes.IndexByte([]byte(digits), b) >= 0; got != want {
			t.Errorf("Digit(%q): %v", b, got)
		}
	}
}

func TestP4_1Example(t *testing.T) {
	wantTokens(t, "a1 = 2;", name(0, "a1"), sign(3, "="), number(5, "2"), sign(6, ";"), end(7))
}

func TestP4_1Empty(t *testing.T) {
	wantTokens(t, "", end(0))
	wantTokens(t, " ", end(1))
	wantTokens(t, "\n\t \n", end(4))
}

func TestP4_1Names(t *testing.T) {
	wantTokens(t, "a", name(0, "a"), end(1))
	wantTokens(t, "Z", name(0, "Z"), end(1))
	wantTokens(t, "a0", name(0, "a0"), end(2))
	wantTokens(t, "a00000000000000", name(0, "a00000000000000"), end(15))
	wantTokens(t, "x1y22Z", name(0, "x1y22Z"), end(6))
	wantTokens(t, "program of", name(0, "program"), name(8, "of"), end(10)) // words are names here
	wantTokens(t, letters+digits, name(0, letters+digits), end(62))
	long := strings.Repeat("a", api.MaxText) // the 20 of chapter 5 are none of the lexer's
	wantTokens(t, long, name(0, long), end(api.MaxText))
}

func TestP4_1Numbers(t *testing.T) {
	for _, s := range []string{"0", "1", "9", "10", "42", "999999999", "1000000000", "4294967296", "9999999999"} {
		wantTokens(t, s, number(0, s), end(len(s)))
		wantTokens(t, " "+s+"a", number(1, s), name(1+len(s), "a"), end(len(s)+2))
		wantTokens(t, s+"#", number(0, s), end(len(s)+1))
	}
	wantTokens(t, "0 0", number(0, "0"), number(2, "0"), end(3))
	wantTokens(t, "1a2", number(0, "1"), name(1, "a2"), end(3))
	wantTokens(t, "0x10", number(0, "0"), name(1, "x10"), end(4))
	wantTokens(t, "0,0", number(0, "0"), sign(1, ","), number(2, "0"), end(3))
}

// A number of eleven digits or more, or with a 0 before other digits, is an
// error at its beginning, wherever it ends.
func TestP4_1NotNumbers(t *testing.T) {
	for _, s := range []string{
		"10000000000", "99999999999", "12345678901", "100000000000000000000000", strings.Repeat("7", 3000),
		"00", "01", "09", "000", "010", "0000000000", "0123456789", "00000000000", "01234567890",
	} {
		for _, before := range []string{"", " ", "ab ", "#c\n", "1 {", "\n\n\n"} {
			for _, after := range []string{"", " ", "z", ";", "#", " 1", " ?", "?"} {
				wantError(t, before+s+after, len(before), api.ErrNumber)
			}
		}
	}
}

func TestP4_1Signs(t *testing.T) {
	var want []lex.Token
	for i, c := range signs {
		wantTokens(t, string(c), sign(0, string(c)), end(1))
		want = append(want, sign(i, string(c)))
	}
	wantTokens(t, signs, append(want, end(len(signs)))...)
	wantTokens(t, "==", sign(0, "="), sign(1, "="), end(2))
	wantTokens(t, "a[5]:b", name(0, "a"), sign(1, "["), number(2, "5"), sign(3, "]"), sign(4, ":"), name(5, "b"), end(6))
}

func TestP4_1Separators(t *testing.T) {
	for _, s := range []string{" ", "\t", "\n", "  ", " \t\n\n\t ", "#\n", "#x\n", "# a 1 ? \n", "#\n#\n", " # #\n\t"} {
		n := len(s)
		wantTokens(t, "ab"+s+"cd", name(0, "ab"), name(2+n, "cd"), end(4+n))
		wantTokens(t, "12"+s+"34", number(0, "12"), number(2+n, "34"), end(4+n))
		wantTokens(t, s+"{"+s, sign(n, "{"), end(2*n+1))
		wantTokens(t, s+s, end(2*n))
		wantTokens(t, "0"+s+"0", number(0, "0"), number(1+n, "0"), end(2+n)) // and not 00
	}
}

func TestP4_1CommentAtEnd(t *testing.T) {
	for _, s := range []string{"#", "#\n", "# c", "# c\n", "##", "#c#d", "#01?", "#\r", "#\xff\x00"} {
		wantTokens(t, s, end(len(s)))
		wantTokens(t, "a"+s, name(0, "a"), end(1+len(s)))
		wantTokens(t, "a;\n "+s, name(0, "a"), sign(1, ";"), end(4+len(s)))
	}
}

// Only a newline ends a comment, and what is in it does not matter.
func TestP4_1CommentBytes(t *testing.T) {
	for c := range 256 {
		s := "a #" + string([]byte{byte(c)}) + "?\nb"
		if c == '\n' {
			wantError(t, s, 4, api.ErrToken)
			continue
		}
		wantTokens(t, s, name(0, "a"), name(6, "b"), end(7))
	}
}

// Each byte that begins no token is an error, where it is.
func TestP4_1Bytes(t *testing.T) {
	begins := letters + digits + signs + blanks + "#"
	for c := range 256 {
		s := string([]byte{byte(c)})
		if strings.Contains(begins, s) {
			wantSplit(t, s)
			if _, _, e := lex.Split(s); e != api.OK {
				t.Errorf("Split(%q): error %d", s, e)
			}
			continue
		}
		for _, before := range []string{"", "a", "a1 ", "10", "0", ";", "#c\n", "\n \t", "{ a : 5"} {
			for _, after := range []string{"", "a", " 1", s, ";", "\n", "#", "00", "\xff"} {
				wantError(t, before+s+after, len(before), api.ErrToken)
			}
		}
	}
}

// What other lexers take: it begins no token here.
func TestP4_1Others(t *testing.T) {
	wantError(t, "a_b", 1, api.ErrToken)
	wantError(t, "a\r\nb", 1, api.ErrToken)
	wantError(t, "a\vb", 1, api.ErrToken)
	wantError(t, "a\fb", 1, api.ErrToken)
	wantError(t, "-1", 0, api.ErrToken)
	wantError(t, "1.5", 1, api.ErrToken)
	wantError(t, "a // b", 2, api.ErrToken)
	wantError(t, "\"a\"", 0, api.ErrToken)
	wantError(t, "na\u00efve", 2, api.ErrToken)
	wantError(t, "a\u00a0b", 1, api.ErrToken)
	wantError(t, "\ufeffa", 0, api.ErrToken)
	wantError(t, "\u0663", 0, api.ErrToken)
	wantError(t, "a\x00", 1, api.ErrToken)
}

// Of several errors the one that comes first in the text is returned,
// whichever it is.
func TestP4_1FirstError(t *testing.T) {
	wantError(t, "01 ?", 0, api.ErrNumber)
	wantError(t, "? 01", 0, api.ErrToken)
	wantError(t, "a ? 01 10000000000", 2, api.ErrToken)
	wantError(t, "a 10000000000 ? 01", 2, api.ErrNumber)
	wantError(t, "a 01 10000000000 ?", 2, api.ErrNumber)
	wantError(t, "1 ! ?", 2, api.ErrToken)
	wantError(t, "01?", 0, api.ErrNumber)
	wantError(t, "?01", 0, api.ErrToken)
	wantError(t, "# 01 ?\n 5 ? 01", 10, api.ErrToken)
}

func TestP4_1Size(t *testing.T) {
	spaces := strings.Repeat(" ", 4000)
	wantTokens(t, spaces, end(4000))
	wantTokens(t, spaces[1:], end(3999))
	wantTokens(t, spaces[1:]+"a", name(3999, "a"), end(4000))
	wantError(t, spaces[1:]+"?", 3999, api.ErrToken)
	wantError(t, spaces[2:]+"00", 3998, api.ErrNumber)
	wantTokens(t, "#"+strings.Repeat("?", 3999), end(4000))
	signs, _, e := lex.Split(strings.Repeat(";", 4000))
	if len(signs) != 4001 || e != api.OK || signs[3999] != sign(3999, ";") || signs[4000] != end(4000) {
		t.Errorf("4000 signs: %d tokens, error %d", len(signs), e)
	}
}

// A text that is too long has no other error, and always the same offset.
func TestP4_1TooLong(t *testing.T) {
	for _, n := range []int{4001, 4002, 5000, 1 << 20} {
		for _, s := range []string{" ", "a", "0", ";", "?", "#", "\xff", "\n"} {
			wantError(t, strings.Repeat(s, n), 4000, api.ErrSize)
		}
		wantError(t, "01 ? 10000000000"+strings.Repeat(" ", n-16), 4000, api.ErrSize)
		wantError(t, strings.Repeat(" ", n-1)+"?", 4000, api.ErrSize)
	}
	// Bytes count, not characters.
	wantError(t, "#"+strings.Repeat("\u00e9", 2000), 4000, api.ErrSize)
}

// P4.1 and P7 of all short texts of bytes of each sort.
func TestP4_1AllShort(t *testing.T) {
	const sorts = "aZ019 \n#,?"
	texts := []string{""}
	for range 5 {
		var longer []string
		for _, s := range texts {
			for i := range len(sorts) {
				longer = append(longer, s+sorts[i:i+1])
			}
		}
		texts = longer
		for _, s := range texts {
			wantSplit(t, s)
		}
	}
}

// random returns a text of n pieces, most of which are none of an error.
func random(r *rand.Rand, n int) string {
	pieces := []string{"a", "Zz", "x1", "program", "0", "7", "10", "9999999999", " ", "\t", "\n", "  ", "#c ?\n", "#\n",
		"{", "}", "(", ")", "[", "]", "=", ":", ";", ","}
	var b strings.Builder
	for range n {
		b.WriteString(pieces[r.Intn(len(pieces))])
		if r.Intn(40*n) < 4 {
			b.WriteString([]string{"?", "00", "12345678901", "\r", "\xff", "#"}[r.Intn(6)])
		}
	}
	return b.String()
}

func TestP4_1Random(t *testing.T) {
	r := rand.New(rand.NewSource(4))
	for range 3000 {
		wantSplit(t, random(r, 1+r.Intn(60)))
	}
}

// P7, as far as it speaks of tokens: every text either has tokens, of which
// it consists with what separates them, or yields an error and its position.
func TestP7Tokens(t *testing.T) {
	r := rand.New(rand.NewSource(7))
	tokenized := 0
	for range 3000 {
		s := random(r, 1+r.Intn(60))
		tokens, at, e := lex.Split(s)
		if e != api.OK {
			if at < 0 || at >= len(s) || len(tokens) != 0 {
				t.Errorf("Split(%q): error %d at %d, %d tokens", s, e, at, len(tokens))
			}
			if _, _, e := lex.Split(s[:at]); e != api.OK {
				t.Errorf("Split(%q): error %d at %d, and another one before", s, e, at)
			}
			continue
		}
		tokenized++
		wantWhole(t, s, tokens)
	}
	if tokenized < 300 {
		t.Errorf("only %d texts had tokens", tokenized)
	}
}

// wantWhole checks that s consists of the tokens and of what separates them.
func wantWhole(t *testing.T, s string, tokens []lex.Token) {
	t.Helper()
	gap := regexp.MustCompile(`^(?:[ \t\n]|#[^\n]*)*$`)
	at := 0
	for i, k := range tokens {
		if k.At < at || k.At > len(s) || !gap.MatchString(s[at:k.At]) || !strings.HasPrefix(s[k.At:], k.Text) {
			t.Fatalf("%q: token %d is %v, after offset %d", s, i, k, at)
		}
		if last := i == len(tokens)-1; (k.Kind == lex.End) != last || (k.Text == "") != last || k.Kind >= lex.Kinds {
			t.Errorf("%q: token %d of %d is %v", s, i, len(tokens), k)
		}
		at = k.At + len(k.Text)
	}
	if at != len(s) {
		t.Errorf("%q: the End is at %d", s, at)
	}
}

func TestP4_1Value(t *testing.T) {
	for s, want := range map[string]int{
		"0": 0, "1": 1, "9": 9, "10": 10, "65535": 65535, "4294967296": 4294967296, "9999999999": 9999999999,
		"00": 0, "007": 7, "12345678901": 12345678901,
		"99999999999999999":                    99999999999999999,
		"123456789012345678":                   123456789012345678,
		"999999999999999999":                   999999999999999999,
		"1234567890123456789":                  123456789012345678,
		"9999999999999999999":                  999999999999999999,
		"0000000000000000012":                  1,
		"00000000000000000012":                 0,
		"18446744073709551616":                 184467440737095516,
		strings.Repeat("1", 4000):              111111111111111111,
		"100000000000000000" + digits + digits: 100000000000000000,
	} {
		if got := number(3, s).Value(); got != want {
			t.Errorf("Value of %.30s: %d, want %d", s, got, want)
		}
	}
}

func TestP4_1ValueOfOtherKinds(t *testing.T) {
	for k := range 256 {
		for _, s := range []string{"", "5", "12345", "a1", ";", "999999999999999999999"} {
			if got := (lex.Token{Kind: lex.Kind(k), Text: s}).Value(); lex.Kind(k) != lex.Number && got != 0 {
				t.Errorf("Value of kind %d, %q: %d", k, s, got)
			}
		}
	}
	if got := (lex.Token{}).Value(); got != 0 {
		t.Errorf("Value of the zero token: %d", got)
	}
}

// A token that says it is a Number, but is none, has the value of any other.
func TestP4_1ValueOfNoNumber(t *testing.T) {
	for _, s := range []string{"", "a", "-1", "+1", " 1", "1 ", "12a", "1a2", "\xff", "1\x00", "1.5", "0x10", "1_0", "\u0663",
		"123456789012345678a"} {
		if got := number(0, s).Value(); got != 0 {
			t.Errorf("Value of the number %q: %d", s, got)
		}
	}
}

func TestP4_1ValueOfSplit(t *testing.T) {
	tokens, _, e := lex.Split("a 9999999999 ; 0 = 65536")
	if e != api.OK || len(tokens) != 7 {
		t.Fatalf("%d tokens, error %d", len(tokens), e)
	}
	for i, want := range []int{0, 9999999999, 0, 0, 0, 65536, 0} {
		if got := tokens[i].Value(); got != want {
			t.Errorf("Value of token %d: %d, want %d", i, got, want)
		}
	}
}

// P1: no bytes make a call panic, or not end.
func TestP1NoPanic(t *testing.T) {
	r := rand.New(rand.NewSource(1))
	for range 2000 {
		b := make([]byte, r.Intn(50))
		r.Read(b)
		wantSplit(t, string(b))
		for k := range 6 {
			(lex.Token{Kind: lex.Kind(k), At: -1, Text: string(b)}).Value()
		}
	}
	lex.Split(strings.Repeat("\x80", 1<<24))
	number(math.MinInt, strings.Repeat("9", 1<<24)).Value()
}

// P2, R1.
func TestR1(t *testing.T) {
	if math.MaxInt != math.MaxInt64 {
		t.Error("int has not 64 bits")
	}
}

// P2, R2: the size is looked at before anything else.
func TestR2(t *testing.T) {
	wantError(t, "?"+strings.Repeat("0", 4000), 4000, api.ErrSize)
	wantError(t, "?"+strings.Repeat("0", 3999), 0, api.ErrToken)
	wantError(t, strings.Repeat("0", 3999)+"?", 0, api.ErrNumber)
}

// P2, R3: no tokens with an error, even if some were met before it.
func TestR3(t *testing.T) {
	for s, e := range map[string]api.Errno{"a = 1 ?": api.ErrToken, "a = 01": api.ErrNumber, strings.Repeat("a ", 2001): api.ErrSize} {
		if tokens, _, got := lex.Split(s); len(tokens) != 0 || got != e {
			t.Errorf("Split(%.20q): %d tokens, error %d", s, len(tokens), got)
		}
	}
}

// P2, R6: the tokens are the caller's alone, their texts too.
func TestR6(t *testing.T) {
	s := strings.Clone("a1 = 2;")
	first, _, _ := lex.Split(s)
	second, _, _ := lex.Split(s)
	for _, k := range first {
		if k.Text != "" && within(s, k.Text) {
			t.Errorf("%q shares memory with the argument", k.Text)
		}
	}
	clear(first[:cap(first)])
	if !slices.Equal(second, []lex.Token{name(0, "a1"), sign(3, "="), number(5, "2"), sign(6, ";"), end(7)}) {
		t.Errorf("two results share memory: %v", second)
	}
}

// within reports whether the bytes of part are among those of s in memory.
func within(s, part string) bool {
	begin, at := uintptr(unsafe.Pointer(unsafe.StringData(s))), uintptr(unsafe.Pointer(unsafe.StringData(part)))
	return begin <= at && at < begin+uintptr(len(s))
}

// P2, R8: nothing but the text matters, not what was split before. (R4, R5
// and R7 ask nothing of this layer: it has no state, no lists as arguments
// and no objects behind pointers.)
func TestR8(t *testing.T) {
	texts := []string{"", "a", "01", "?", "# c", "a = 1;", strings.Repeat(";", 4001)}
	for _, s := range texts {
		want := fmt.Sprint(lex.Split(s))
		for _, other := range texts {
			lex.Split(other)
			if got := fmt.Sprint(lex.Split(s)); got != want {
				t.Errorf("Split(%.20q) after Split(%.20q): %s, want %s", s, other, got, want)
			}
		}
	}
}
