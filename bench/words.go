package bench

import (
	"strconv"
	"strings"

	"corduroy/api"
	"corduroy/trap"
)

const (
	// mostDigits is how many digits a number has at the most.
	mostDigits = 9
	// mostSigned is how many digits a number with a sign has at the most.
	mostSigned = 19
)

// need throws that a line is none, unless it has just so many words behind the first one.
func need(words []string, n int) { trap.Check(len(words) == n, api.ErrOp) }

// signed is the number with a sign that a word is; it throws that a line is none, if it is none.
func signed(word string) int64 {
	unsigned, minus := strings.CutPrefix(word, "-")
	trap.Check(isDigits(unsigned, mostSigned) && !(minus && unsigned == "0"), api.ErrOp)
	v, err := strconv.ParseInt(word, 10, 64)
	trap.Check(err == nil, api.ErrOp)
	return v
}

// number is the number that a word is; it throws that a line is none, if it is none.
func number(word string) int {
	trap.Check(isDigits(word, mostDigits), api.ErrOp)
	n, err := strconv.Atoi(word)
	trap.Check(err == nil, api.ErrOp)
	return n
}

// isDigits: is a word 1 or more digits, not too many, without a nought ahead of others?
func isDigits(word string, most int) bool {
	if len(word) == 0 || len(word) > most || len(word) > 1 && word[0] == '0' {
		return false
	}
	for i := range len(word) {
		if word[i] < '0' || word[i] > '9' {
			return false
		}
	}
	return true
}

// tell is a line that is told.
func tell(words ...string) string { return strings.Join(words, " ") + "\n" }

func wrong(e api.Errno) string { return "error " + strconv.Itoa(int(e)) }

func decimal(v int64) string { return strconv.FormatInt(v, 10) }
