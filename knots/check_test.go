package knots_test

import (
	"regexp"
	"slices"
	"strings"
	"testing"

	"knots/api"
	"knots/knots"
)

const four = "1 2\n-1 2\n1 -2\n-1 -2\n"

type checkCase struct {
	clauses, proof string
	errno          api.Errno
	step           int
}

func wantCheck(t *testing.T, c checkCase) {
	t.Helper()
	errno, step := knots.Check(c.clauses, c.proof)
	if errno != c.errno || step != c.step {
		t.Errorf("P4: Check(%.60q, %.60q) = %d, %d, want %d, %d", c.clauses, c.proof, errno, step, c.errno, c.step)
	}
}

func wantChecks(t *testing.T, cases []checkCase) {
	t.Helper()
	for _, c := range cases {
		wantCheck(t, c)
	}
}

func TestCheckOfAddedClauses(t *testing.T) {
	wantChecks(t, []checkCase{
		{"", "", api.OK, 0},
		{four, "", api.OK, 0},
		{four, "2\n\n", api.OK, 0},
		{four, "\n", api.ErrStep, 1},
		{four, "3\n", api.ErrStep, 1},
		{"", "1\n", api.ErrStep, 1},
		{"1\n", "1\n1\n1 2\n2\n", api.ErrStep, 4},
		// A conflict that needs several clauses, whatever their order.
		{"1\n-1 2\n-2 3\n-3 4\n", "4\n", api.OK, 0},
		{"-3 4\n-2 3\n-1 2\n1\n", "4\n", api.OK, 0},
		{"-3 4\n-2 3\n-1 2\n", "4\n", api.ErrStep, 1},
		{"-3 4\n-2 3\n-1 2\n", "4 -1\n", api.OK, 0},
		{"1\n-1 2\n-2 3\n-3 4\n", "-4\n", api.ErrStep, 1},
		// Entailed, but not to be followed without a search.
		{"1 2 3\n1 2 -3\n1 -2 3\n1 -2 -3\n", "1\n", api.ErrStep, 1},
		{"1 2 3\n1 2 -3\n1 -2 3\n1 -2 -3\n", "1 2\n1\n", api.OK, 0},
		// All but one false, and that one true: nothing comes of it.
		{"1 2\n", "-1 2\n", api.ErrStep, 1},
		// Two left of a clause: nothing comes of it.
		{"1 2 3\n-1 -2 -3\n", "1\n", api.ErrStep, 1},
		{"1 2 3\n-1 -2 -3\n", "1 2\n", api.ErrStep, 1},
	})
}

func TestCheckUsesWhatWasAdded(t *testing.T) {
	wantChecks(t, []checkCase{
		{four, "2\n1\n\n", api.OK, 0},
		{four, "1\n-1\n\n", api.OK, 0},
		{four, "2 3\n3\n", api.OK, 0},
		{four, "2 3\n2 -3\n2\n\n", api.OK, 0},
		// What did not follow ends it: the steps behind are not looked at.
		{four, "2\n\n-7\n7\n", api.OK, 0},
		{four, "3\n2\n\n", api.ErrStep, 1},
	})
}

func TestCheckOfEmptyClauses(t *testing.T) {
	wantChecks(t, []checkCase{
		{"", "\n", api.ErrStep, 1},
		{"\n", "\n", api.OK, 0},
		{"\n", "5\n-5\n\n", api.OK, 0},
		{"1\n\n", "-1\n", api.OK, 0},
		{"\n", "d\n", api.OK, 0},
		{"\n", "d\n\n", api.ErrStep, 2},
		{"\n", "d\nd\n", api.ErrLost, 2},
		{"\n\n", "d\n5\nd\n", api.OK, 0},
		{"", "d\n", api.ErrLost, 1},
		{"1\n-1\n", "\nd\n\nd\nd\n", api.ErrLost, 5},
	})
}

func TestCheckOfOppositeLiterals(t *testing.T) {
	wantChecks(t, []checkCase{
		// Added, one with opposite literals always follows.
		{"", "1 -1\n", api.OK, 0},
		{"", "7 -12 5 12\n", api.OK, 0},
		{"", "1 -1\nd -1 1\nd 1 -1\n", api.ErrLost, 3},
		// In the list nothing comes of it.
		{"1 -1\n", "\n", api.ErrStep, 1},
		{"1 -1\n", "1\n", api.ErrStep, 1},
		{"1 -1\n", "-1\n", api.ErrStep, 1},
		{"1 -1 2\n", "2\n", api.ErrStep, 1},
		{"1 -1 2\n", "1 2\n", api.ErrStep, 1},
		{"1 -1\n", "d -1 1\n", api.OK, 0},
		{"1 -1\n", "d 1\n", api.ErrLost, 1},
	})
}

func TestCheckOfClausesThatGo(t *testing.T) {
	wantChecks(t, []checkCase{
		{four, "d 2 1\n", api.OK, 0},
		{four, "d 1\n", api.ErrLost, 1},
		{four, "d 1 2 3\n", api.ErrLost, 1},
		{four, "d\n", api.ErrLost, 1},
		{four, "d 1 2\nd 1 2\n", api.ErrLost, 2},
		{four, "d 1 2\n2\n", api.ErrStep, 2},
		{four, "2\nd 1 2\nd 2 -1\n\n", api.OK, 0},
		{four, "2\nd 2\n\n", api.ErrStep, 3},
		{four, "2\nd 2\n2\n\n", api.OK, 0},
		// What goes need not follow, and one that follows but is not there can not go.
		{"3\n", "d 3\n", api.OK, 0},
		{"3\n", "d 3 4\n", api.ErrLost, 1},
		// Gone, and added anew.
		{"1 2\n1 -2\n", "1\nd 1 2\n1 2\nd 1\nd 1 2\n1\n", api.ErrStep, 6},
	})
}

func TestCheckCountsHowOftenAClauseIsThere(t *testing.T) {
	wantChecks(t, []checkCase{
		{"1 2\n1 2\n", "d 1 2\nd 2 1\n", api.OK, 0},
		{"1 2\n1 2\n", "d 1 2\nd 2 1\nd 1 2\n", api.ErrLost, 3},
		{"1 2\n2 1 2\n", "d 1 2\nd 1 2\nd 1 2\n", api.ErrLost, 3},
		{"1\n1\n-1 2\n", "d 1\n2\n", api.OK, 0},
		{"1\n1\n-1 2\n", "d 1\nd 1\n2\n", api.ErrStep, 3},
		// A clause of the text that is added too is there once more.
		{"1\n", "1\nd 1\n1\nd 1\nd 1\nd 1\n", api.ErrLost, 6},
		{four, "2\n2\nd 2\n\n", api.OK, 0},
		{four, "2\n2\nd 2\nd 2\n\n", api.ErrStep, 5},
	})
}

func TestCheckReadsLiteralsInAnyOrderAndOften(t *testing.T) {
	wantChecks(t, []checkCase{
		{"2 1 2 1\n", "1 2 1\nd 1 1 2\nd 2 2 1\nd 1 2\n", api.ErrLost, 4},
		{"12 -11 10\n", "d -11 10 12 -11\n", api.OK, 0},
		{four, "2 2\n1 1 1\n\n", api.OK, 0},
		{"1 1 1\n-1 -1 2 2\n", "2\n", api.OK, 0},
		{four, "d 1 2 1\n2\n", api.ErrStep, 2},
	})
}

func TestCheckOfLinesThatAreNoSteps(t *testing.T) {
	for _, line := range []string{
		"0", "2 0", "02", "+2", "-", "13", "-13", "2 ", " 2", "2  2", "2\t1", "2\r", "x", "2 x", "٢", "\xff",
		"d ", "d  ", "d1", "d-1", "d  1 2", "d 1  2", "d 1 2 ", " d 1 2", "d d 1 2", "d 1 d 2", "1 2 d", "dd 1 2",
		"D 1 2", "d\t1 2", "d 0", "d 1 2 0", "d 01 2", "d +1 2", "d 13", "d 1 2\r", "D", " ", "d x",
	} {
		wantCheck(t, checkCase{four, line + "\n", api.ErrLine, 1})
		wantCheck(t, checkCase{four, "2\n\n" + line + "\nx\n", api.ErrLine, 3})
	}
}

func TestCheckOfALastStepThatIsNotEnded(t *testing.T) {
	wantChecks(t, []checkCase{
		{four, "2", api.ErrLine, 1},
		{four, "3", api.ErrLine, 1},
		{four, "d", api.ErrLine, 1},
		{four, "d 1 2", api.ErrLine, 1},
		{four, "d 7", api.ErrLine, 1},
		{four, "2\n\n1", api.ErrLine, 3},
		{four, "3\n1", api.ErrStep, 1},
		{"1\n2", "", api.ErrText, 2},
	})
}

func TestCheckAtTheBound(t *testing.T) {
	const most = api.MaxText
	empties := strings.Repeat("\n", most)
	long := strings.Repeat("2", most+1)
	wantChecks(t, []checkCase{
		{empties, empties, api.OK, 0},
		{empties, strings.Repeat("d\n", most/2), api.OK, 0},
		{empties, empties + "\n", api.ErrLong, 0},
		{empties + "\n", "", api.ErrLong, 0},
		{four, "2\n" + strings.Repeat("\n", most-2), api.OK, 0},
		{four, "2\n" + strings.Repeat("\n", most-1), api.ErrLong, 0},
		{four, strings.Repeat("2", most), api.ErrLine, 1},
		{four, long, api.ErrLong, 0},
		{strings.Repeat("2", most), long, api.ErrText, 1},
	})
}

func TestCheckNamesTheFirstError(t *testing.T) {
	long := strings.Repeat("x", api.MaxText+1)
	wantChecks(t, []checkCase{
		// The clauses ahead of the proof.
		{long, long, api.ErrLong, 0},
		{long, "x", api.ErrLong, 0},
		{four + "x\n", long, api.ErrText, 5},
		{"1\n2", long, api.ErrText, 2},
		{four + "x\ny\n", "x\n", api.ErrText, 5},
		{four, long, api.ErrLong, 0},
		// A step's own number, whatever stands behind it.
		{four, "\nx\n", api.ErrStep, 1},
		{four, "d 5\nx\n", api.ErrLost, 1},
		{four, "d 5\n\n", api.ErrLost, 1},
		{four, "\nd 5\n", api.ErrStep, 1},
		{four, "2\nx\n3 4\nd 5\n", api.ErrLine, 2},
		{four, "2\nd 5\nx\n", api.ErrLost, 2},
		{four, "d 1 2\n3\nx\n", api.ErrStep, 2},
	})
}

var goingStep = regexp.MustCompile(`^d( ` + literal + `)*\n$`)

// checkByRule answers as P4 says, word for word, by other means than the program's.
func checkByRule(clauses, proof string) (api.Errno, int) {
	plain, errno, at := plainByRule(clauses)
	if errno != api.OK {
		return errno, at
	}
	list := strings.SplitAfter(plain, "\n")
	list = list[:len(list)-1]
	for i, step := range strings.SplitAfter(proof, "\n") {
		if step == "" {
			break
		}
		goes := goingStep.MatchString(step)
		if !goes && !clauseLine.MatchString(step) {
			return api.ErrLine, i + 1
		}
		clause := lineOf(numbersOf(strings.TrimPrefix(step, "d")))
		place := slices.Index(list, clause)
		switch {
		case goes && place < 0:
			return api.ErrLost, i + 1
		case goes:
			list = slices.Delete(list, place, place+1)
		case !followsByRule(list, clause):
			return api.ErrStep, i + 1
		default:
			list = append(list, clause)
		}
	}
	return api.OK, 0
}

func followsByRule(list []string, clause string) bool {
	taken := map[int]bool{}
	for _, n := range numbersOf(clause) {
		taken[-n] = true
		if taken[n] {
			return true
		}
	}
	for grown := true; grown; {
		grown = false
		for _, line := range list {
			var left []int
			for _, n := range numbersOf(line) {
				if !taken[-n] {
					left = append(left, n)
				}
			}
			if len(left) == 0 {
				return true
			}
			if len(left) == 1 && !taken[left[0]] {
				taken[left[0]] = true
				grown = true
			}
		}
	}
	return false
}

func TestCheckOfAllShortProofs(t *testing.T) {
	pieces := []string{"\n", " ", "d", "-1", "1", "2", "d 1 2\n"}
	eachText(pieces, 5, func(proof string) {
		for _, clauses := range []string{four, "1 2\n\n1\n", "1 -1\n-1 2\n1 2\n1 2\n"} {
			errno, step := checkByRule(clauses, proof)
			wantCheck(t, checkCase{clauses, proof, errno, step})
		}
	})
}
