package lex

import (
	"math"
	"strconv"
	"strings"
)

// number tells what a run of letters and digits is as a number, and whether it is unsigned; false: it is no number.
func number(run string) (uint32, bool, bool) {
	digits, marked := cutMark(run)
	base := 10
	switch {
	case strings.HasPrefix(digits, "0x"), strings.HasPrefix(digits, "0X"):
		digits, base = digits[2:], 16
	case strings.HasPrefix(digits, "0"):
		// The 0 itself stays: it is an octal digit, and it may stand alone.
		base = 8
	}
	n, err := strconv.ParseUint(digits, base, 32)
	if err != nil {
		return 0, false, false
	}
	return uint32(n), marked || n > math.MaxInt32, true
}

// cutMark cuts off the one letter that says that a number is unsigned.
func cutMark(run string) (string, bool) {
	last := len(run) - 1
	if run[last] == 'u' || run[last] == 'U' {
		return run[:last], true
	}
	return run, false
}
