package knots_test

import (
	"regexp"
	"slices"
	"strconv"
	"strings"
	"testing"

	"knots/api"
	"knots/knots"
)

func wantPlain(t *testing.T, clauses, text string, errno api.Errno, line int) {
	t.Helper()
	gotText, gotErrno, gotLine := knots.Plain(clauses)
	if gotText != text || gotErrno != errno || gotLine != line {
		t.Errorf("P3: Plain(%.60q) = %.60q, %d, %d, want %.60q, %d, %d", clauses, gotText, gotErrno, gotLine, text, errno, line)
	}
}

func TestPlainOfClauses(t *testing.T) {
	for _, c := range []struct{ clauses, plain string }{
		{"", ""},
		{"1\n", "1\n"},
		{"-12\n", "-12\n"},
		{"2 -1 2\n", "-1 2\n"},
		// A line without literals, alone and among others.
		{"\n", "\n"},
		{"\n\n", "\n\n"},
		{"\n3\n\n2 1\n", "\n3\n\n1 2\n"},
		// Any order, and more than once.
		{"12 11 10 9 8 7 6 5 4 3 2 1\n", "1 2 3 4 5 6 7 8 9 10 11 12\n"},
		{"-1 -2 -3 -10 -11\n", "-1 -2 -3 -10 -11\n"},
		{"10 2 1\n", "1 2 10\n"},
		{"3 -2 3 -2 3\n", "-2 3\n"},
		// The order is that of the variables, not of the numbers.
		{"1 -2\n", "1 -2\n"},
		{"-3 2 -1\n", "-1 2 -3\n"},
		// Of opposite ones the one above 0 comes first; the line stays.
		{"-1 1\n", "1 -1\n"},
		{"-12 5 12 -5\n", "5 -5 12 -12\n"},
		{"-1 1 -1 1\n", "1 -1\n"},
		// The order of the clauses stays, and one may stand there often.
		{"3\n1 2\n3\n2 1\n", "3\n1 2\n3\n1 2\n"},
	} {
		wantPlain(t, c.clauses, c.plain, api.OK, 0)
	}
}

func TestPlainOfEachLiteral(t *testing.T) {
	for n := -300; n <= 300; n++ {
		line := strconv.Itoa(n) + "\n"
		if n != 0 && -api.MaxVar <= n && n <= api.MaxVar {
			wantPlain(t, line, line, api.OK, 0)
		} else {
			wantPlain(t, line, "", api.ErrText, 1)
		}
	}
}

func TestPlainOfWrongLines(t *testing.T) {
	for _, line := range []string{
		"0", "1 0", "-0", "01", "001", "-01", "00", "+1", "--1", "-", "- 1", "1-", "1-2",
		"13", "-13", "100", "18446744073709551617", "9223372036854775808", "-9223372036854775808",
		" ", "  ", " 1", "1 ", "1  2", "1\t2", "\t", "1\r", "1\v", "1\x00", "\x00", "1\u00a02",
		"d", "d 1", "x", "1 x", "x 1", "1,2", "1.0", "1e0", "0x1", "1_0", "٣", "１", "\xff", "1 \xff",
	} {
		wantPlain(t, line+"\n", "", api.ErrText, 1)
		wantPlain(t, "1\n\n"+line+"\n2\n", "", api.ErrText, 3)
	}
}

func TestPlainNamesTheFirstWrongLine(t *testing.T) {
	wantPlain(t, "x\ny\n", "", api.ErrText, 1)
	wantPlain(t, "1\nx\n2\ny\nz", "", api.ErrText, 2)
	wantPlain(t, strings.Repeat("\n", 4321)+"0\n", "", api.ErrText, 4322)
}

func TestPlainOfALastLineThatIsNotEnded(t *testing.T) {
	wantPlain(t, "1", "", api.ErrText, 1)
	wantPlain(t, " ", "", api.ErrText, 1)
	wantPlain(t, "1\n2", "", api.ErrText, 2)
	wantPlain(t, "\n\n1 2", "", api.ErrText, 3)
	wantPlain(t, "x\n1", "", api.ErrText, 1)
}

func TestPlainAtTheBound(t *testing.T) {
	ones := strings.Repeat("1\n", api.MaxText/2)
	wantPlain(t, ones, ones, api.OK, 0)
	wantPlain(t, ones+"\n", "", api.ErrLong, 0)
	empties := strings.Repeat("\n", api.MaxText)
	wantPlain(t, empties, empties, api.OK, 0)
	wantPlain(t, empties+"\n", "", api.ErrLong, 0)
	oneLine := strings.Repeat("2 ", api.MaxText/2-1) + "2\n"
	wantPlain(t, oneLine, "2\n", api.OK, 0)
	wantPlain(t, "-"+oneLine, "", api.ErrLong, 0)
	// ErrLong is named ahead of ErrText.
	wantPlain(t, strings.Repeat("x", api.MaxText), "", api.ErrText, 1)
	wantPlain(t, strings.Repeat("x", api.MaxText+1), "", api.ErrLong, 0)
	wantPlain(t, "x\n"+empties, "", api.ErrLong, 0)
}

const literal = `-?([1-9]|1[0-2])`

var clauseLine = regexp.MustCompile(`^(` + literal + `( ` + literal + `)*)?\n$`)

// plainByRule answers as P3 says, word for word, by other means than the program's.
func plainByRule(clauses string) (string, api.Errno, int) {
	var text strings.Builder
	for i, line := range strings.SplitAfter(clauses, "\n") {
		if line == "" {
			break
		}
		if !clauseLine.MatchString(line) {
			return "", api.ErrText, i + 1
		}
		text.WriteString(lineOf(numbersOf(line)))
	}
	return text.String(), api.OK, 0
}

// numbersOf gives the literals of a right line, each once, in plain order.
func numbersOf(line string) []int {
	var numbers []int
	for _, word := range strings.Fields(line) {
		n, _ := strconv.Atoi(word)
		numbers = append(numbers, n)
	}
	slices.SortFunc(numbers, func(a, b int) int {
		if a*a != b*b {
			return a*a - b*b
		}
		return b - a
	})
	return slices.Compact(numbers)
}

func lineOf(numbers []int) string {
	words := make([]string, len(numbers))
	for i, n := range numbers {
		words[i] = strconv.Itoa(n)
	}
	return strings.Join(words, " ") + "\n"
}

// eachText goes through all texts of at most so many of the pieces.
func eachText(pieces []string, most int, see func(string)) {
	var grow func(text string, left int)
	grow = func(text string, left int) {
		see(text)
		if left == 0 {
			return
		}
		for _, piece := range pieces {
			grow(text+piece, left-1)
		}
	}
	grow("", most)
}

func TestPlainOfAllShortTexts(t *testing.T) {
	eachText([]string{"\n", " ", "-", "0", "1", "2", "3", "d"}, 5, func(clauses string) {
		text, errno, line := plainByRule(clauses)
		wantPlain(t, clauses, text, errno, line)
	})
}

func TestPlainOfPlainIsTheSame(t *testing.T) {
	eachText([]string{"1 ", "-1 ", "3 ", "-12 ", "2\n", "-1\n", "\n"}, 5, func(clauses string) {
		if plain, errno, _ := knots.Plain(clauses); errno == api.OK {
			wantPlain(t, plain, plain, api.OK, 0)
		}
	})
}
