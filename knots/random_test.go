package knots_test

import (
	"math/rand"
	"strconv"
	"strings"
	"testing"

	"knots/api"
	"knots/knots"
)

// The seed is fixed, so that what fails once fails again.
func newChance() *rand.Rand { return rand.New(rand.NewSource(1)) }

func randomLine(chance *rand.Rand, variables, most int) string {
	words := make([]string, chance.Intn(most+1))
	for i := range words {
		n := chance.Intn(variables) + 1
		if chance.Intn(2) == 0 {
			n = -n
		}
		words[i] = strconv.Itoa(n)
	}
	return strings.Join(words, " ") + "\n"
}

func randomClauses(chance *rand.Rand, variables, most, lines int) []string {
	all := make([]string, lines)
	for i := range all {
		for all[i] = "\n"; all[i] == "\n"; {
			all[i] = randomLine(chance, variables, most)
		}
	}
	return all
}

// randomProof makes steps most of which are right, so that it comes far.
func randomProof(chance *rand.Rand, list []string, variables int) string {
	list = append([]string(nil), list...)
	var proof strings.Builder
	for range chance.Intn(30) {
		line := randomLine(chance, variables, 3)
		if chance.Intn(4) == 0 {
			line = list[chance.Intn(len(list))]
			proof.WriteString("d " + line)
			continue
		}
		if chance.Intn(10) > 0 && !followsByRule(list, line) {
			continue
		}
		list = append(list, line)
		proof.WriteString(line)
	}
	return proof.String()
}

func TestCheckOfRandomProofs(t *testing.T) {
	chance := newChance()
	seen := map[api.Errno]int{}
	for range 3000 {
		variables := 2 + chance.Intn(api.MaxVar-1)
		list := randomClauses(chance, variables, 4, 1+chance.Intn(4*variables))
		clauses, proof := strings.Join(list, ""), randomProof(chance, list, variables)
		errno, step := checkByRule(clauses, proof)
		wantCheck(t, checkCase{clauses, proof, errno, step})
		seen[errno]++
	}
	for _, errno := range []api.Errno{api.OK, api.ErrLost, api.ErrStep} {
		if seen[errno] < 100 {
			t.Errorf("only %d of the proofs end with %d", seen[errno], errno)
		}
	}
}

// isTrue tells whether a line is true if the variables' values are the bits.
func isTrue(line string, values int) bool {
	for _, n := range numbersOf(line) {
		if n > 0 && values>>(n-1)&1 == 1 || n < 0 && values>>(-n-1)&1 == 0 {
			return true
		}
	}
	return false
}

func entails(list []string, line string, variables int) bool {
values:
	for values := range 1 << variables {
		if isTrue(line, values) {
			continue
		}
		for _, other := range list {
			if !isTrue(other, values) {
				continue values
			}
		}
		return false
	}
	return true
}

func TestCheckAcceptsOnlyWhatIsEntailed(t *testing.T) {
	chance := newChance()
	accepted := 0
	for range 1500 {
		variables := 2 + chance.Intn(4)
		list := randomClauses(chance, variables, 3, 1+chance.Intn(3*variables))
		proof := randomProof(chance, list, variables)
		if errno, _ := knots.Check(strings.Join(list, ""), proof); errno != api.OK {
			continue
		}
		accepted++
		for line := range strings.Lines(proof) {
			if !strings.HasPrefix(line, "d") && !entails(list, line, variables) {
				t.Fatalf("P8: %q is added, but %q does not entail it", line, list)
			}
		}
	}
	if accepted < 100 {
		t.Errorf("only %d proofs are accepted", accepted)
	}
}

func TestNoBytesMakeACallPanic(t *testing.T) {
	chance := newChance()
	bytes := "\n\n\n   --0112339d\r\x00\xff"
	text := func() string {
		all := make([]byte, chance.Intn(40))
		for i := range all {
			all[i] = bytes[chance.Intn(len(bytes))]
		}
		return string(all)
	}
	for range 50000 {
		clauses := text()
		plain, errno, line := plainByRule(clauses)
		wantPlain(t, clauses, plain, errno, line)
		proof := text()
		errno, line = checkByRule(clauses, proof)
		wantCheck(t, checkCase{clauses, proof, errno, line})
		errno, line = checkByRule(four, proof)
		wantCheck(t, checkCase{four, proof, errno, line})
	}
}
