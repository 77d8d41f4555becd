// Package paths: which names and paths there may be, their order, and which are one by folding.
package paths

import (
	"cmp"
	"strings"

	"convoy/api"
)

// IsPath tells whether s is 1 to MaxDepth names with / between.
func IsPath(s string) bool {
	depth := 0
	for name := range strings.SplitSeq(s, "/") {
		depth++
		if depth > api.MaxDepth || !isName(name) {
			return false
		}
	}
	return true
}

// IsSpare tells whether s is a spare name.
func IsSpare(s string) bool {
	if len(s) < 2 || len(s) > api.MaxName || s[0] != '~' {
		return false
	}
	for i := 1; i < len(s); i++ {
		if !isDigit(s[i]) {
			return false
		}
	}
	return true
}

// Parent gives the path that s is directly below, or nothing if s lies at the top.
func Parent(s string) string {
	i := strings.LastIndexByte(s, '/')
	if i < 0 {
		return ""
	}
	return s[:i]
}

// Last gives the last name of s.
func Last(s string) string { return s[strings.LastIndexByte(s, '/')+1:] }

// Compare orders paths name by name: where one of two like names ends, it is ahead, though the bytes - and . are less than the /.
func Compare(a, b string) int {
	for i := range min(len(a), len(b)) {
		switch {
		case a[i] == b[i]:
		case a[i] == '/':
			return -1
		case b[i] == '/':
			return 1
		default:
			return cmp.Compare(a[i], b[i])
		}
	}
	return cmp.Compare(len(a), len(b))
}

// Same tells whether a and b are one path, where names fold or where they don't.
func Same(a, b string, fold bool) bool {
	if !fold || len(a) != len(b) {
		return a == b
	}
	for i := range len(a) {
		if folded(a[i]) != folded(b[i]) {
			return false
		}
	}
	return true
}

// IsBelow tells whether s is below the path above, where names fold or where they don't.
func IsBelow(s, above string, fold bool) bool {
	n := len(above)
	return len(s) > n && s[n] == '/' && Same(s[:n], above, fold)
}

func isName(s string) bool {
	if len(s) < 1 || len(s) > api.MaxName || s == "." || s == ".." {
		return false
	}
	for i := range len(s) {
		if !isNameByte(s[i]) {
			return false
		}
	}
	return true
}

func isNameByte(c byte) bool {
	return 'a' <= c && c <= 'z' || 'A' <= c && c <= 'Z' || isDigit(c) || c == '.' || c == '_' || c == '-'
}

func isDigit(c byte) bool { return '0' <= c && c <= '9' }

func folded(c byte) byte {
	if 'A' <= c && c <= 'Z' {
		return c - 'A' + 'a'
	}
	return c
}
