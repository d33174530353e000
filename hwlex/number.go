package hwlex

import (
	"math/bits"
	"strconv"
	"strings"

	"multikernel/api"
)

// number returns the value of s, a sequence of letters, digits and underscores that begins with a digit.
func number(s string) (uint64, api.Errno) {
	digits, shift := cutSuffix(s)
	base := 10
	if hex, ok := strings.CutPrefix(digits, "0x"); ok {
		digits, base = hex, 16
	} else if len(digits) > 1 && digits[0] == '0' {
		return 0, api.ErrSyntax
	}
	// ParseUint reports an overflow ahead of a bad digit that follows it, so the digits are checked here.
	if digits == "" || !allDigits(digits, base) {
		return 0, api.ErrSyntax
	}
	value, err := strconv.ParseUint(digits, base, 64)
	if err != nil || bits.Len64(value)+shift > 64 {
		return 0, api.ErrRange
	}
	return value << shift, api.OK
}

// cutSuffix returns s without its suffix K, M or G, and the power of two by which the suffix multiplies.
func cutSuffix(s string) (string, int) {
	last := len(s) - 1
	switch s[last] {
	case 'K':
		return s[:last], 10
	case 'M':
		return s[:last], 20
	case 'G':
		return s[:last], 30
	}
	return s, 0
}

func allDigits(s string, base int) bool {
	for i := range len(s) {
		if !isDigit(s[i]) && (base == 10 || !isHexLetter(s[i])) {
			return false
		}
	}
	return true
}

func isHexLetter(c byte) bool { return 'a' <= c && c <= 'f' || 'A' <= c && c <= 'F' }
