package desk

import (
	"strconv"
	"strings"
)

// hexadecimal are the digits to the base 16.
const hexadecimal = "0123456789abcdef"

// fuelOf tells which fuel is written: it has one to seven digits.
func fuelOf(digits string) (int, bool) {
	if len(digits) > 7 || strings.Trim(digits, hexadecimal[:10]) != "" {
		return 0, false
	}
	n, e := strconv.Atoi(digits)
	return n, e == nil
}

// bytesOf tells which bytes are written, each as a pair of digits.
func bytesOf(pairs string) (string, bool) {
	if len(pairs)%2 > 0 {
		return "", false
	}
	b := make([]byte, len(pairs)/2)
	for i, digit := range []byte(pairs) {
		n := strings.IndexByte(hexadecimal, digit)
		if n < 0 {
			return "", false
		}
		b[i/2] = b[i/2]<<4 | byte(n)
	}
	return string(b), true
}

// pairsOf writes bytes, each as a pair of digits; `-`, if there are none.
func pairsOf(s string) string {
	if s == "" {
		return "-"
	}
	b := make([]byte, 0, 2*len(s))
	for i := range len(s) {
		b = append(b, hexadecimal[s[i]>>4], hexadecimal[s[i]%16])
	}
	return string(b)
}
