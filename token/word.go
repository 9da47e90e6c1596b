package token

import (
	"strconv"

	"forelock/api"
)

const (
	mostLetters = 12
	mostDigits  = 9
	mostNum     = 999999999 // so many digits, all of them 9
)

// skip answers the first place of s from at on that no blank and no remark is at; how long s is, if there is none.
func skip(s string, at int) int {
	for at < len(s) {
		switch {
		case isBlank(s[at]):
			at++
		case s[at] == '#':
			at += run(s[at:], isRemark)
		default:
			return at
		}
	}
	return at
}

// cut answers the word that s begins with, and how many bytes it has; 0, if s begins with none. There must be a byte.
func cut(s string) (api.Word, int) {
	if n := run(s, isLetter); isName(s[:n]) {
		return api.Word{Kind: api.WordName, Text: own(s[:n])}, n
	}
	if n := run(s, isDigit); isNum(s[:n]) {
		v, _ := strconv.Atoi(s[:n])
		return api.Word{Kind: api.WordNum, N: v}, n
	}
	if isMark(s[:1]) {
		return api.Word{Kind: api.WordMark, Text: own(s[:1])}, 1
	}
	return api.Word{}, 0
}

// own answers s in memory of its own, so that no word holds on to the script that it was cut from.
func own(s string) string {
	return string([]byte(s))
}

// run answers how many bytes at the beginning of s are of that kind.
func run(s string, is func(byte) bool) int {
	n := 0
	for n < len(s) && is(s[n]) {
		n++
	}
	return n
}

func isName(s string) bool {
	return len(s) >= 1 && len(s) <= mostLetters && run(s, isLetter) == len(s)
}

// isNum answers whether digits are a number: each number is written in one way alone.
func isNum(digits string) bool {
	return len(digits) == 1 || len(digits) > 1 && len(digits) <= mostDigits && digits[0] != '0'
}

func isMark(s string) bool {
	switch s {
	case "{", "}", ";", ".", "=":
		return true
	}
	return false
}

func isBlank(c byte) bool {
	return c == ' ' || c == '\t' || c == '\n'
}

func isRemark(c byte) bool {
	return c != '\n'
}

func isLetter(c byte) bool {
	return c >= 'a' && c <= 'z'
}

func isDigit(c byte) bool {
	return c >= '0' && c <= '9'
}
