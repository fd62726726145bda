package knots_test

import (
	"math/rand"
	"slices"
	"strconv"
	"strings"
	"testing"

	"knots/api"
	"knots/knots"
)

// The seed is fixed, so that what fails once fails again.
func newChance() *rand.Rand { return rand.New(rand.NewSource(1)) }

func randomLine(chance *rand.Rand, variables, most int) string {
	words := make([]string, chance.Intn(most+1))
	for i := range words {
		n := chance.Intn(variables) + 1
		if chance.Intn(2) == 0 {
			n = -n
		}
		words[i] = strconv.Itoa(n)
	}
	return strings.Join(words, " ") + "\n"
}

func randomClauses(chance *rand.Rand, variables, most, lines int) []string {
	all := make([]string, lines)
	for i := range all {
		for all[i] = "\n"; all[i] == "\n"; {
			all[i] = randomLine(chance, variables, most)
		}
	}
	return all
}

// randomProof makes steps most of which are right, so that it comes far.
func randomProof(chance *rand.Rand, list []string, variables int) string {
	list = append([]string(nil), list...)
	var proof strings.Builder
	for range chance.Intn(30) {
		line := randomLine(chance, variables, 3)
		if chance.Intn(4) == 0 {
			line = list[chance.Intn(len(list))]
			proof.WriteString("d " + line)
			continue
		}
		if chance.Intn(10) > 0 && !followsByRule(list, line) {
			continue
		}
		list = append(list, line)
		proof.WriteString(line)
	}
	return proof.String()
}

func TestCheckOfRandomProofs(t *testing.T) {
	chance := newChance()
	seen := map[api.Errno]int{}
	for range 3000 {
		variables := 2 + chance.Intn(api.MaxVar-1)
		list := randomClauses(chance, variables, 4, 1+chance.Intn(4*variables))
		clauses, proof := strings.Join(list, ""), randomProof(chance, list, variables)
		errno, step := checkByRule(clauses, proof)
		wantCheck(t, checkCase{clauses, proof, errno, step})
		seen[errno]++
	}
	for _, errno := range []api.Errno{api.OK, api.ErrLost, api.ErrStep} {
		if seen[errno] < 100 {
			t.Errorf("only %d of the proofs end with %d", seen[errno], errno)
		}
	}
}

// isTrue tells whether a line is true if the variables' values are the bits.
func isTrue(line string, values int) bool {
	for _, n := range numbersOf(line) {
		if n > 0 && values>>(n-1)&1 == 1 || n < 0 && values>>(-n-1)&1 == 0 {
			return true
		}
	}
	return false
}

func entails(list []string, line string, variables int) bool {
values:
	for values := range 1 << variables {
		if isTrue(line, values) {
			continue
		}
		for _, other := range list {
			if !isTrue(other, values) {
				continue values
			}
		}
		return false
	}
	return true
}

func TestCheckAcceptsOnlyWhatIsEntailed(t *testing.T) {
	chance := newChance()
	accepted := 0
	for range 1500 {
		variables := 2 + chance.Intn(4)
		list := randomClauses(chance, variables, 3, 1+chance.Intn(3*variables))
		proof := randomProof(chance, list, variables)
		if errno, _ := knots.Check(strings.Join(list, ""), proof); errno != api.OK {
			continue
		}
		accepted++
		for line := range strings.Lines(proof) {
			if !strings.HasPrefix(line, "d") && !entails(list, line, variables) {
				t.Fatalf("P8: %q is added, but %q does not entail it", line, list)
			}
		}
	}
	if accepted < 100 {
		t.Errorf("only %d proofs are accepted", accepted)
	}
}

// truths tells in a bit for each of the four values of two variables whether a
// line is true.
func truths(line string) int {
	all := 0
	for values := range 4 {
		if isTrue(line, values) {
			all |= 1 << values
		}
	}
	return all
}

// smallSteps gives all steps with clauses of two variables.
func smallSteps() []string {
	var all []string
	for set := range 16 {
		var numbers []int
		for i, n := range []int{1, -1, 2, -2} {
			if set>>i&1 == 1 {
				numbers = append(numbers, n)
			}
		}
		line := lineOf(numbers)
		all = append(all, line, strings.Replace("d "+line, " \n", "\n", 1))
	}
	return all
}

// eachList goes through all lists of at most so many of the lines, in their order.
func eachList(lines []string, most int, see func(list []string)) {
	var grow func(list []string, from int)
	grow = func(list []string, from int) {
		see(list)
		for i := from; i < len(lines) && len(list) < most; i++ {
			grow(append(slices.Clone(list), lines[i]), i)
		}
	}
	grow(nil, 0)
}

// All lists of up to three clauses of two variables, with all proofs of two steps.
func TestCheckAcceptsOnlyWhatSmallListsEntail(t *testing.T) {
	lines := []string{"1 -1\n"}
	for _, lits := range smallClauses {
		lines = append(lines, lineOf(lits))
	}
	all := smallSteps()
	accepted := 0
	eachList(lines, 3, func(list []string) {
		models := 15
		for _, line := range list {
			models &= truths(line)
		}
		clauses := strings.Join(list, "")
		for i := range len(all) * len(all) {
			first, second := all[i/len(all)], all[i%len(all)]
			if errno, _ := knots.Check(clauses, first+second); errno != api.OK {
				continue
			}
			accepted++
			for _, step := range []string{first, second} {
				if !strings.HasPrefix(step, "d") && models&^truths(step) != 0 {
					t.Fatalf("P8: of %q the proof %q is accepted", clauses, first+second)
				}
			}
		}
	})
	if accepted < 10000 {
		t.Errorf("only %d proofs are accepted", accepted)
	}
}

func TestNoBytesMakeACallPanic(t *testing.T) {
	chance := newChance()
	bytes := "\n\n\n   --0112339d\r\x00\xff"
	text := func() string {
		all := make([]byte, chance.Intn(40))
		for i := range all {
			all[i] = bytes[chance.Intn(len(bytes))]
		}
		return string(all)
	}
	for range 50000 {
		clauses := text()
		plain, errno, line := plainByRule(clauses)
		wantPlain(t, clauses, plain, errno, line)
		proof := text()
		errno, line = checkByRule(clauses, proof)
		wantCheck(t, checkCase{clauses, proof, errno, line})
		errno, line = checkByRule(four, proof)
		wantCheck(t, checkCase{four, proof, errno, line})
	}
}
