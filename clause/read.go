package clause

import (
	"strconv"
	"strings"

	"knots/api"
)

// Read reads a text of clauses, a line each. With an error it tells the number
// of the line, counted from 1 on, or 0 if the text is too long.
func Read(text string) ([]Clause, api.Errno, int) {
	if len(text) > api.MaxText {
		return nil, api.ErrLong, 0
	}
	var all []Clause
	number := 0
	for line := range strings.Lines(text) {
		number++
		words, ended := Words(line)
		c, ok := FromWords(words)
		if !ended || !ok {
			return nil, api.ErrText, number
		}
		all = append(all, c)
	}
	return all, api.OK, 0
}

// Words takes a line apart at its blanks; false, if no newline ends it.
func Words(line string) ([]string, bool) {
	inner, ended := strings.CutSuffix(line, "\n")
	if inner == "" {
		// Split would find one word here, an empty one.
		return nil, ended
	}
	return strings.Split(inner, " "), ended
}

// FromWords gives the clause whose literals the words are; false, if one of
// them is none.
func FromWords(words []string) (Clause, bool) {
	return union(words, fromWord)
}

func fromWord(word string) (Clause, bool) {
	number, err := strconv.Atoi(word)
	// Atoi reads more than a literal may look like: +1 and 01 too.
	if err != nil || strconv.Itoa(number) != word {
		return 0, false
	}
	return Of(number)
}
