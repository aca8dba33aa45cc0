package committee

import (
	"math"
	"slices"
	"testing"

	"forkledger/api"
)

// masks is the number of sets of validators; the masks below it are these sets.
const masks = 1 << 10

// full is the set of all validators.
const full api.Mask = masks - 1

// beyond are bits of a mask that do not count.
var beyond = []api.Mask{0, 1 << 10, 1 << 11, 1<<10 | 1<<13, 1 << 31, 1 << 32, 1 << 62, math.MinInt, math.MinInt | 1<<10, -masks}

// noIDs are numbers that no validator has.
var noIDs = []int{-1, -2, -10, -63, -64, 10, 11, 62, 63, 64, 65, 128, 1 << 32, 1<<32 + 1, math.MinInt, math.MinInt + 1, math.MaxInt}

// tooFew are numbers of members of which there are none.
var tooFew = []int{0, -1, -2, -3, -10, math.MinInt, math.MinInt + 1, math.MinInt + 2}

// setOf returns the set of the ids.
func setOf(ids ...int) api.Mask {
	var m api.Mask
	for _, i := range ids {
		m += 1 << i
	}
	return m
}

// idsOf returns the ids in a set without other bits, by dividing it.
func idsOf(m api.Mask) []int {
	var ids []int
	for i := 0; m > 0; i, m = i+1, m/2 {
		if m%2 == 1 {
			ids = append(ids, i)
		}
	}
	return ids
}

// The numbers of this table come from a computation of the chapter outside of this program.
func TestQuorumAndThird(t *testing.T) {
	for _, c := range []struct{ n, quorum, third int }{
		{1, 1, 1}, {2, 2, 1}, {3, 3, 1}, {4, 3, 2}, {5, 4, 2}, {6, 5, 2}, {7, 5, 3},
		{8, 6, 3}, {9, 7, 3}, {10, 7, 4}, {11, 8, 4}, {12, 9, 4}, {13, 9, 5},
		{100, 67, 34}, {101, 68, 34}, {102, 69, 34}, {103, 69, 35},
		{math.MaxInt - 2, 6148914691236517204, 3074457345618258602},
		{math.MaxInt - 1, 6148914691236517205, 3074457345618258602},
		{math.MaxInt, 6148914691236517205, 3074457345618258603},
	} {
		if got := Quorum(c.n); got != c.quorum {
			t.Errorf("P6.1: Quorum(%d) = %d, want %d", c.n, got, c.quorum)
		}
		if got := Third(c.n); got != c.third {
			t.Errorf("P6.1: Third(%d) = %d, want %d", c.n, got, c.third)
		}
	}
}

func TestThirdIsLeast(t *testing.T) {
	for n := 1; n <= 3000; n++ {
		least := 0
		for 3*least < n {
			least++
		}
		if got := Third(n); got != least {
			t.Fatalf("P6.1: Third(%d) = %d, want %d", n, got, least)
		}
	}
}

func TestQuorumAndThirdOfNobody(t *testing.T) {
	for _, n := range tooFew {
		if q, h := Quorum(n), Third(n); q != 0 || h != 0 {
			t.Errorf("P6.1: Quorum(%d) = %d, Third(%d) = %d, want 0", n, q, n, h)
		}
	}
}

func TestExampleSet(t *testing.T) {
	m := setOf(0, 3, 4, 9)
	if got := Size(m); got != 4 {
		t.Errorf("P6.2: Size of {0, 3, 4, 9} = %d", got)
	}
	if got := IDs(m); !slices.Equal(got, []int{0, 3, 4, 9}) {
		t.Errorf("P6.2: IDs of {0, 3, 4, 9} = %v", got)
	}
	for i, want := range []bool{true, false, false, true, true, false, false, false, false, true} {
		if got := Has(m, i); got != want {
			t.Errorf("P6.2: Has({0, 3, 4, 9}, %d) = %v", i, got)
		}
	}
	for k, want := range []api.Mask{0, setOf(0), setOf(0, 3), setOf(0, 3, 4), m, m, m} {
		if got := Lowest(m, k); got != want {
			t.Errorf("P6.2: Lowest({0, 3, 4, 9}, %d) = %v, want %v", k, IDs(got), IDs(want))
		}
	}
}

func TestEverySet(t *testing.T) {
	for m := range api.Mask(masks) {
		ids := idsOf(m)
		for _, high := range beyond {
			x := m | high
			if got := Size(x); got != len(ids) {
				t.Fatalf("P6.2: Size(%b) = %d, want %d", x, got, len(ids))
			}
			if got := IDs(x); !slices.Equal(got, ids) {
				t.Fatalf("P6.2: IDs(%b) = %v, want %v", x, got, ids)
			}
			for i := range api.MaxValidators {
				if got := Has(x, i); got != slices.Contains(ids, i) {
					t.Fatalf("P6.2: Has(%b, %d) = %v", x, i, got)
				}
			}
		}
	}
}

func TestHasNobodyElse(t *testing.T) {
	for _, m := range append(beyond, setOf(1), full, -1, math.MaxInt) {
		for _, i := range noIDs {
			if Has(m, i) {
				t.Errorf("P6.2: Has(%b, %d)", m, i)
			}
		}
	}
}

func TestLowestOfEverySet(t *testing.T) {
	for m := range api.Mask(masks) {
		ids := idsOf(m)
		for _, high := range beyond {
			x := m | high
			for k := range 12 {
				if got, want := Lowest(x, k), setOf(ids[:min(k, len(ids))]...); got != want {
					t.Fatalf("P6.2: Lowest(%b, %d) = %b, want %b", x, k, got, want)
				}
			}
			for _, k := range []int{10, 64, 1 << 32, math.MaxInt} {
				if got := Lowest(x, k); got != m {
					t.Fatalf("P6.2: Lowest(%b, %d) = %b, want %b", x, k, got, m)
				}
			}
			for _, k := range tooFew {
				if got := Lowest(x, k); got != 0 {
					t.Fatalf("P6.2: Lowest(%b, %d) = %b, want the empty set", x, k, got)
				}
			}
		}
	}
}

func TestSelectExamples(t *testing.T) {
	for _, c := range []struct {
		validators, size int
		guilty, want     api.Mask
	}{
		{4, 4, 0, setOf(0, 1, 2, 3)},
		{6, 4, 0, setOf(0, 1, 2, 3)},
		{6, 4, setOf(2, 3), setOf(0, 1, 4, 5)},
		{5, 4, setOf(2, 3), setOf(0, 1, 4)},
		{4, 4, setOf(2, 3), setOf(0, 1)},
		{10, 7, setOf(0, 9), setOf(1, 2, 3, 4, 5, 6, 7)},
		{10, 7, setOf(0, 1, 2, 3, 4), setOf(5, 6, 7, 8, 9)},
		{10, 1, setOf(0, 1, 2, 3, 4, 5, 6, 7, 8), setOf(9)},
		{1, 1, 0, setOf(0)},
		{1, 7, setOf(0), 0},
		{10, 10, 0, full},
		{10, 7, full, 0},
	} {
		if got := Select(c.validators, c.size, c.guilty); got != c.want {
			t.Errorf("P6.3: Select(%d, %d, %v) = %v, want %v", c.validators, c.size, idsOf(c.guilty), IDs(got), IDs(c.want))
		}
	}
}

// selected picks the members one by one, as P6.3 describes them.
func selected(validators, size int, guilty api.Mask) api.Mask {
	var picked []int
	for i := 0; i < validators && len(picked) < size; i++ {
		if !slices.Contains(idsOf(guilty), i) {
			picked = append(picked, i)
		}
	}
	return setOf(picked...)
}

func TestSelectOfEverySet(t *testing.T) {
	for validators := range 11 {
		for size := range 12 {
			for guilty := range api.Mask(masks) {
				want := selected(validators, size, guilty)
				if got := Select(validators, size, guilty); got != want {
					t.Fatalf("P6.3: Select(%d, %d, %b) = %b, want %b", validators, size, guilty, got, want)
				}
			}
		}
	}
}

func TestSelectIgnoresOtherBits(t *testing.T) {
	for _, high := range beyond {
		for guilty := range api.Mask(masks) {
			if got, want := Select(9, 5, guilty|high), selected(9, 5, guilty); got != want {
				t.Fatalf("P6.3: Select(9, 5, %b) = %b, want %b", guilty|high, got, want)
			}
		}
	}
}

func TestSelectOutOfRange(t *testing.T) {
	for _, many := range []int{11, 12, 62, 63, 64, 65, 1 << 32, math.MaxInt - 1, math.MaxInt} {
		for guilty := range api.Mask(masks) {
			if got, want := Select(many, 7, guilty), selected(10, 7, guilty); got != want {
				t.Fatalf("P6.3: Select(%d, 7, %b) = %b, want %b", many, guilty, got, want)
			}
			if got, want := Select(10, many, guilty), selected(10, 10, guilty); got != want {
				t.Fatalf("P6.3: Select(10, %d, %b) = %b, want %b", many, guilty, got, want)
			}
		}
	}
	for _, few := range append(tooFew, -62, -63, -64, -65) {
		for _, other := range []int{math.MinInt, -1, 0, 1, 7, 10, math.MaxInt} {
			for _, guilty := range append(beyond, 1, full, -1) {
				if a, b := Select(few, other, guilty), Select(other, few, guilty); a != 0 || b != 0 {
					t.Fatalf("P6.3: Select of %d and %d, guilty %b: %b and %b, want the empty set", few, other, guilty, a, b)
				}
			}
		}
	}
}

// TestIDsAreNewMemory changes a result, also beyond its length, and looks for the change in another one.
func TestIDsAreNewMemory(t *testing.T) {
	a, b := IDs(setOf(1, 5, 7)), IDs(setOf(1, 5, 7))
	clear(a[:cap(a)])
	if want := []int{1, 5, 7}; !slices.Equal(b, want) || !slices.Equal(IDs(setOf(1, 5, 7)), want) {
		t.Error("P6.2, R2: results of IDs share memory")
	}
}

// quorums returns all sets of Quorum(n) members of a committee of n.
func quorums(n int) []api.Mask {
	var sets []api.Mask
	for m := range api.Mask(1) << n {
		if len(idsOf(m)) == Quorum(n) {
			sets = append(sets, m)
		}
	}
	return sets
}

// TestQuorumsShareMembers checks all pairs of quorums of every committee of up to MaxValidators members.
func TestQuorumsShareMembers(t *testing.T) {
	for n := 1; n <= api.MaxValidators; n++ {
		sets, fewest := quorums(n), n
		for _, a := range sets {
			for _, b := range sets {
				fewest = min(fewest, Size(a&b))
			}
		}
		if fewest < 2*Quorum(n)-n || fewest < Third(n) || fewest <= (n-1)/3 {
			t.Errorf("P6.4: two quorums of %d members share only %d", n, fewest)
		}
	}
}

func TestSharedMembersAreAThird(t *testing.T) {
	check := func(n int) {
		shared := Quorum(n) - (n - Quorum(n))
		if shared < Third(n) || shared <= (n-1)/3 {
			t.Errorf("P6.4: n = %d: quorums of %d share %d members, Third = %d", n, Quorum(n), shared, Third(n))
		}
	}
	for n := 1; n <= 3000; n++ {
		check(n)
	}
	for n := math.MaxInt; n > math.MaxInt-10; n-- {
		check(n)
	}
}

// TestMembersStay compares the committees of every guilty set and every greater one.
func TestMembersStay(t *testing.T) {
	for _, c := range []struct{ validators, size int }{{10, 7}, {10, 4}, {10, 1}, {6, 4}, {4, 4}, {3, 7}, {12, 10}} {
		for h := range api.Mask(masks) {
			later := Select(c.validators, c.size, h)
			// The subsets of h in descending order.
			for g := h; ; g = (g - 1) & h {
				if lost := Select(c.validators, c.size, g) &^ h &^ later; lost != 0 {
					t.Fatalf("P6.4: Select(%d, %d): guilty %b, later %b: %v left without being guilty", c.validators, c.size, g, h, idsOf(lost))
				}
				if g == 0 {
					break
				}
			}
		}
	}
}
