package knots_test

import (
	"strings"
	"sync"
	"testing"

	"knots/api"
)

// P2: many at a time, in any order, answer as one alone does.
func TestPlainAndCheckHangOnTheirArgumentsAlone(t *testing.T) {
	var all sync.WaitGroup
	for range 8 {
		all.Go(func() {
			for range 200 {
				wantPlain(t, "2 -1 2\n", "-1 2\n", api.OK, 0)
				wantPlain(t, "1\nx\n", "", api.ErrText, 2)
				wantCheck(t, checkCase{four, "2\n\n", api.OK, 0})
				wantCheck(t, checkCase{four, "\n", api.ErrStep, 1})
				wantCheck(t, checkCase{four, "d 1 2\nd 1 2\n", api.ErrLost, 2})
			}
		})
	}
	all.Wait()
}

// P1: a text that is far too long is refused at once, and the largest that is
// read, with the slowest chain of what comes of what, comes to an end.
func TestGreatTexts(t *testing.T) {
	great := strings.Repeat("1\n", 5000000)
	wantPlain(t, great, "", api.ErrLong, 0)
	wantCheck(t, checkCase{great, great, api.ErrLong, 0})
	wantCheck(t, checkCase{four, great, api.ErrLong, 0})

	chain := "-11 12\n-10 11\n-9 10\n-8 9\n-7 8\n-6 7\n-5 6\n-4 5\n-3 4\n-2 3\n-1 2\n"
	var filling strings.Builder
	for values := 0; filling.Len() < api.MaxText-len(chain)-50; values++ {
		numbers := []int{1}
		for n := 2; n <= 12; n++ {
			if values>>(n-2)&1 == 1 {
				numbers = append(numbers, n)
			}
		}
		filling.WriteString(lineOf(numbers))
	}
	clauses := chain + filling.String() + "1\n"
	wantCheck(t, checkCase{clauses, strings.Repeat("12\n", api.MaxText/3), api.OK, 0})
	wantCheck(t, checkCase{clauses, strings.Repeat("12\nd 12\n", api.MaxText/8), api.OK, 0})
}
