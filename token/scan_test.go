package token_test

import (
	"slices"
	"strconv"
	"strings"
	"testing"

	"forelock/api"
	"forelock/token"
)

func name(text string, at int) api.Word {
	return api.Word{Kind: api.WordName, Text: text, At: at}
}

func num(n, at int) api.Word {
	return api.Word{Kind: api.WordNum, N: n, At: at}
}

func mark(text string, at int) api.Word {
	return api.Word{Kind: api.WordMark, Text: text, At: at}
}

// short is a text as a fault tells it.
func short(s string) string {
	if len(s) > 100 {
		return strconv.Quote(s[:50]) + " and so on, of " + strconv.Itoa(len(s)) + " bytes"
	}
	return strconv.Quote(s)
}

func checkWords(t *testing.T, s string, want ...api.Word) {
	t.Helper()
	l, at, err := token.Scan(s)
	if !slices.Equal(l, want) || at != 0 || err != api.OK {
		t.Errorf("Scan(%s): %v, %d, %d; want %v, 0, 0", short(s), l, at, err, want)
	}
}

func checkRefused(t *testing.T, s string, want int, why api.Errno) {
	t.Helper()
	l, at, err := token.Scan(s)
	if len(l) != 0 || at != want || err != why {
		t.Errorf("Scan(%s): %d words, %d, %d; want none, %d, %d", short(s), len(l), at, err, want, why)
	}
}

// marks are all of them.
func marks() []string {
	return []string{"{", "}", ";", ".", "="}
}

// apart are some of all that may stand between two words: each of them parts them.
func apart() []string {
	return []string{
		" ", "\t", "\n", "  ", "\t\t", "\n\n", " \t\n", "\n \t ", strings.Repeat(" ", 100),
		"#\n", "# \n", "#a\n", "#1\n", "#a1 01 A,\n", "#{};.=\n", "##\n", "#\x00\r\x7f\xff\n", "#\u00e4\u4e16\n",
		"#\n#\n", "#a\n#b\n", "#a\n \t#b\n", " #a\n", "\n# #\n\n",
	}
}

func TestExample(t *testing.T) {
	checkWords(t, "cores 2;", name("cores", 0), num(2, 6), mark(";", 7))
}

func TestScanOfNoWords(t *testing.T) {
	for _, s := range []string{
		"", " ", "\t", "\n", "   ", " \t\n \n", "\n\n\n",
		"#", "#\n", "##", "# #", "#a", "#a\n", "#a1 A,\x00\xff", " #", "\n#", "# \n ", "#\n#", "#a\n#b\n", "#\n\n#\t",
		strings.Repeat(" ", api.MaxScript), "#" + strings.Repeat("A", api.MaxScript-1), strings.Repeat("#\n", api.MaxScript/2),
	} {
		checkWords(t, s)
	}
	for _, s := range apart() {
		checkWords(t, s)
	}
}

func TestScanOfOneWord(t *testing.T) {
	for c := byte('a'); c <= 'z'; c++ {
		one := string(rune(c))
		checkWords(t, one, name(one, 0))
		checkWords(t, "m"+one+"m", name("m"+one+"m", 0))
	}
	for n := range 10 {
		checkWords(t, strconv.Itoa(n), num(n, 0))
	}
	for _, m := range marks() {
		checkWords(t, m, mark(m, 0))
	}
	checkWords(t, "lock", name("lock", 0))
	checkWords(t, "aaa", name("aaa", 0))
	checkWords(t, "zyx", name("zyx", 0))
	// What a word means is no matter of this layer.
	checkWords(t, "nonsense", name("nonsense", 0))
}

func TestScanOfLongNames(t *testing.T) {
	checkWords(t, "abcdefghijk", name("abcdefghijk", 0))
	checkWords(t, "abcdefghijkl", name("abcdefghijkl", 0))
	checkWords(t, "a abcdefghijkl;", name("a", 0), name("abcdefghijkl", 2), mark(";", 14))
	checkRefused(t, "abcdefghijklm", 0, api.ErrForm)
	checkRefused(t, "abcdefghijklmn", 0, api.ErrForm)
	checkRefused(t, "a abcdefghijklm;", 2, api.ErrForm)
	checkRefused(t, ";zzzzzzzzzzzzz", 1, api.ErrForm)
	checkRefused(t, strings.Repeat("a", 24), 0, api.ErrForm)
	checkRefused(t, strings.Repeat("a", api.MaxScript), 0, api.ErrForm)
	// It is too long from its beginning on, whatever comes behind it.
	checkRefused(t, "abcdefghijklm1", 0, api.ErrForm)
	checkRefused(t, "abcdefghijklmA", 0, api.ErrForm)
}

func TestScanOfNumbers(t *testing.T) {
	for _, n := range []int{0, 1, 9, 10, 11, 19, 90, 99, 100, 101, 16, 64, 4096, 99999999, 100000000, 123456789, 987654321, 999999998, 999999999} {
		checkWords(t, strconv.Itoa(n), num(n, 0))
		checkWords(t, " "+strconv.Itoa(n)+";", num(n, 1), mark(";", 1+len(strconv.Itoa(n))))
	}
	for _, s := range []string{"1000000000", "1234567890", "9999999999", "00", "01", "09", "007", "000000000", "012345678", "0000000000", "0123456789"} {
		checkRefused(t, s, 0, api.ErrForm)
		checkRefused(t, "1 "+s, 2, api.ErrForm)
		checkRefused(t, ";"+s+";", 1, api.ErrForm)
	}
	for _, n := range []int{11, 18, 19, 20, 40, 1000, api.MaxScript} {
		checkRefused(t, strings.Repeat("1", n), 0, api.ErrForm)
		checkRefused(t, strings.Repeat("0", n), 0, api.ErrForm)
	}
	// There are no signs in numbers, and none in parts.
	checkRefused(t, "-1", 0, api.ErrForm)
	checkRefused(t, "+1", 0, api.ErrForm)
	checkRefused(t, "1_0", 1, api.ErrForm)
	checkWords(t, "1.5", num(1, 0), mark(".", 1), num(5, 2))
	// It isn't such from its beginning on, whatever comes behind it.
	checkRefused(t, "01a", 0, api.ErrForm)
	checkRefused(t, "1234567890a", 0, api.ErrForm)
}

func TestScanOfWordsSideBySide(t *testing.T) {
	checkWords(t, "{};.=", mark("{", 0), mark("}", 1), mark(";", 2), mark(".", 3), mark("=", 4))
	checkWords(t, ";;;", mark(";", 0), mark(";", 1), mark(";", 2))
	for _, m := range marks() {
		checkWords(t, "a"+m+"b", name("a", 0), mark(m, 1), name("b", 2))
		checkWords(t, "1"+m+"2", num(1, 0), mark(m, 1), num(2, 2))
		checkWords(t, "a"+m+"2", name("a", 0), mark(m, 1), num(2, 2))
		checkWords(t, "1"+m+"b", num(1, 0), mark(m, 1), name("b", 2))
		checkWords(t, m+"a", mark(m, 0), name("a", 1))
		checkWords(t, m+"0", mark(m, 0), num(0, 1))
		for _, other := range marks() {
			checkWords(t, m+other, mark(m, 0), mark(other, 1))
		}
	}
	checkWords(t, "prog{lock 0;}", name("prog", 0), mark("{", 4), name("lock", 5), num(0, 10), mark(";", 11), mark("}", 12))
}

func TestScanOfNameAndNumberSideBySide(t *testing.T) {
	for _, c := range []struct {
		s  string
		at int
	}{
		{"a1", 1}, {"a0", 1}, {"a01", 1}, {"ab12", 2}, {"abcdefghijkl1", 12}, {"a1b", 1}, {"a1234567890", 1},
		{"1a", 1}, {"0a", 1}, {"12ab", 2}, {"123456789a", 9}, {"1a1", 1}, {"0x1", 1}, {"1e9", 1}, {"1abcdefghijklm", 1},
		{" a1", 2}, {"a 1b", 3}, {"a 1 b2", 5}, {"1 a 2b", 5}, {";a1", 2}, {"a;1b", 3}, {"#\na1", 3}, {"a#1\n1a", 5},
		// The first of two such places.
		{"a1 b2", 1}, {"1a A", 1}, {"a1,", 1}, {"1a 01", 1},
	} {
		checkRefused(t, c.s, c.at, api.ErrForm)
	}
}

func TestScanOfWordsApart(t *testing.T) {
	words := []api.Word{name("a", 0), name("lock", 0), num(0, 0), num(10, 0), mark(";", 0), mark("{", 0)}
	texts := []string{"a", "lock", "0", "10", ";", "{"}
	for _, between := range apart() {
		for i, first := range texts {
			for j, second := range texts {
				v, w := words[i], words[j]
				w.At = len(first) + len(between)
				checkWords(t, first+between+second, v, w)
				// At both ends too.
				v.At += len(between)
				w.At += len(between)
				checkWords(t, between+first+between+second+between, v, w)
			}
		}
	}
}

func TestScanOfManyBlanks(t *testing.T) {
	checkWords(t, "cores\t \n 2   ;\n\n", name("cores", 0), num(2, 9), mark(";", 13))
	checkWords(t, "\n\t a\n", name("a", 3))
	checkWords(t, "a"+strings.Repeat(" ", api.MaxScript-2)+"1", name("a", 0), num(1, api.MaxScript-1))
}

func TestScanOfRemarks(t *testing.T) {
	checkWords(t, "a#", name("a", 0))
	checkWords(t, "a#b", name("a", 0))
	checkWords(t, "1#b", num(1, 0))
	checkWords(t, ";# it ends here", mark(";", 0))
	checkWords(t, "a#b\n", name("a", 0))
	// A name and a number with a remark between aren't side by side.
	checkWords(t, "a#b\n1", name("a", 0), num(1, 4))
	checkWords(t, "1#\na", num(1, 0), name("a", 3))
	checkWords(t, "a#\nb", name("a", 0), name("b", 3))
	checkWords(t, "1#\n2", num(1, 0), num(2, 3))
	checkWords(t, "a # b # c\nd", name("a", 0), name("d", 10))
	// Only a byte 10 ends it.
	checkWords(t, "#a\rb\tc d;e\x0b\x0cf\u2028g\u0085h")
	checkWords(t, "#\r\na", name("a", 3))
	checkWords(t, "#{ lock 0; }\n#01 a1 A , \x00 \x7f \xff \u00e4\n;#", mark(";", 33))
	// What is behind it is no remark.
	checkRefused(t, "#a\nA", 3, api.ErrForm)
	checkRefused(t, "a#\n#\n,#", 5, api.ErrForm)
	checkRefused(t, "#\n\r", 2, api.ErrForm)
}

// Each byte alone, behind a word, and ahead of one: of all 256 only those begin one, or part two, that the chapter names.
func TestScanOfEachByte(t *testing.T) {
	for c := range 256 {
		s := string([]byte{byte(c)})
		switch {
		case c >= 'a' && c <= 'z':
			checkWords(t, s, name(s, 0))
			checkWords(t, "b"+s, name("b"+s, 0))
			checkRefused(t, "7"+s, 1, api.ErrForm)
		case c >= '0' && c <= '9':
			checkWords(t, s, num(c-'0', 0))
			checkWords(t, "7"+s, num(70+c-'0', 0))
			checkRefused(t, "b"+s, 1, api.ErrForm)
		case c == '{' || c == '}' || c == ';' || c == '.' || c == '=':
			checkWords(t, s, mark(s, 0))
			checkWords(t, "7"+s+"b", num(7, 0), mark(s, 1), name("b", 2))
		case c == ' ' || c == '\t' || c == '\n':
			checkWords(t, s)
			checkWords(t, "7"+s+"b", num(7, 0), name("b", 2))
		case c == '#':
			checkWords(t, s)
			checkWords(t, "7"+s+"b", num(7, 0))
		default:
			checkRefused(t, s, 0, api.ErrForm)
			checkRefused(t, "7"+s+"b", 1, api.ErrForm)
			checkRefused(t, "b "+s, 2, api.ErrForm)
			checkRefused(t, "b\n;"+s+s, 3, api.ErrForm)
			checkRefused(t, "#"+s+"\n"+s, 3, api.ErrForm)
		}
	}
}

func TestScanOfWhatIsNoWord(t *testing.T) {
	for _, c := range []struct {
		s  string
		at int
	}{
		{"A", 0}, {"Z", 0}, {"aB", 1}, {"Ab", 0}, {"lock A", 5}, {"LOCK", 0},
		{"a\r\nb", 1}, {"a\x00", 1}, {"\x00", 0}, {"\x1f", 0}, {"a \x7f", 2}, {"\x80", 0}, {"\xff", 0},
		{"\u00e4", 0}, {"a\u00e4", 1}, {"a \u4e16 b", 2}, {"\ufeffa", 0}, {"a\u00a0b", 1}, {"\u0660", 0}, {"1\u0661", 1}, {"\u0430", 0},
		{"a,b", 1}, {"a:b", 1}, {"(a)", 0}, {"a-b", 1}, {"a_b", 1}, {"\"a\"", 0}, {"a/b", 1}, {"a@", 1}, {"`", 0}, {"[", 0}, {"a|b", 1}, {"~", 0}, {"/", 0}, {"<", 0}, {"!", 0},
		// The place of the first such one.
		{"a , b , A", 2}, {"01 02", 0}, {"a 01 , a1", 2}, {"a , 01", 2}, {"abcdefghijklm ,", 0}, {"1 2 3 a b c { } ; . = ? !", 22},
	} {
		checkRefused(t, c.s, c.at, api.ErrForm)
	}
}

func TestScanOfTheLongest(t *testing.T) {
	var want []api.Word
	for i := range api.MaxScript {
		want = append(want, mark(";", i))
	}
	checkWords(t, strings.Repeat(";", api.MaxScript), want...)
	blanks := strings.Repeat(" ", api.MaxScript-1)
	checkWords(t, blanks+"a", name("a", api.MaxScript-1))
	checkWords(t, "a"+blanks, name("a", 0))
	checkRefused(t, blanks+",", api.MaxScript-1, api.ErrForm)
	checkRefused(t, ","+blanks, 0, api.ErrForm)
}

// It is too long ahead of all else, whatever stands in it, and wherever.
func TestScanOfTooLong(t *testing.T) {
	for _, n := range []int{api.MaxScript + 1, api.MaxScript + 2, 2 * api.MaxScript, 1 << 16, 1<<16 + 1, 1 << 20} {
		for _, s := range []string{";", " ", "#", "a", "0", "1", ",", "A", "\x00", "\xff", "\n"} {
			checkRefused(t, strings.Repeat(s, n), 8000, api.ErrLong)
		}
		blanks := strings.Repeat(" ", n-1)
		checkRefused(t, blanks+",", 8000, api.ErrLong)
		checkRefused(t, ","+blanks, 8000, api.ErrLong)
		checkRefused(t, "a1"+blanks, 8000, api.ErrLong)
	}
	// Bytes are counted, not signs.
	checkRefused(t, "#"+strings.Repeat("\u00e4", 4000), 8000, api.ErrLong)
	checkWords(t, "##"+strings.Repeat("\u00e4", 3999))
}

// What one call answers is the caller's own: neither another answer nor the text hangs on it.
func TestScanAnswersAnew(t *testing.T) {
	s := " lock 3;"
	first, _, _ := token.Scan(s)
	second, _, _ := token.Scan(s)
	want := []api.Word{name("lock", 1), num(3, 6), mark(";", 7)}
	for i := range first {
		first[i] = api.Word{}
	}
	if !slices.Equal(second, want) {
		t.Errorf("behind a change of another answer: %v; want %v", second, want)
	}
	_ = append(second[:1], name("other", 0))
	checkWords(t, s, want...)
	if s != " lock 3;" {
		t.Errorf("the text has changed: %q", s)
	}
}
