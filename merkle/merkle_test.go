package merkle

import (
	"math"
	"slices"
	"testing"

	"forkledger/api"
	"forkledger/hash"
)

// unlike returns n names, no two of them equal.
func unlike(n int) []api.Name {
	l := make([]api.Name, n)
	for j := range l {
		l[j] = hash.Of(uint64(j*j*257 + j + 3))
	}
	return l
}

// ofNumbers returns the names with the given numbers.
func ofNumbers(numbers []uint64) []api.Name {
	l := make([]api.Name, len(numbers))
	for j, v := range numbers {
		l[j] = hash.Of(v)
	}
	return l
}

// leafRoot returns the root of the tree of one name.
func leafRoot(leaf api.Name) api.Name {
	return hash.Tagged(0x11, leaf[:])
}

// rootByLevels computes the root of a list of at least one name in another way than the chapter describes it: from the leaves up, joining neighbours. A last node without neighbour rises unchanged, which gives the same tree, since a left subtree is always full.
func rootByLevels(leaves []api.Name) api.Name {
	var level []api.Name
	for _, l := range leaves {
		level = append(level, leafRoot(l))
	}
	for len(level) > 1 {
		var above []api.Name
		for j := 0; j+1 < len(level); j += 2 {
			above = append(above, hash.Pair(0x12, level[j], level[j+1]))
		}
		if len(level)%2 == 1 {
			above = append(above, level[len(level)-1])
		}
		level = above
	}
	return level[0]
}

// pathByLevels computes a path in the same way.
func pathByLevels(leaves []api.Name, i int) []api.Name {
	var level, path []api.Name
	for _, l := range leaves {
		level = append(level, leafRoot(l))
	}
	for ; len(level) > 1; i /= 2 {
		if i^1 < len(level) {
			path = append(path, level[i^1])
		}
		var above []api.Name
		for j := 0; j+1 < len(level); j += 2 {
			above = append(above, hash.Pair(0x12, level[j], level[j+1]))
		}
		if len(level)%2 == 1 {
			above = append(above, level[len(level)-1])
		}
		level = above
	}
	return path
}

// outside are positions that no tree of n names has.
func outside(n int) []int {
	return []int{-1, -2, -n, n, n + 1, 2*n + 1, math.MinInt, math.MinInt + 1, math.MaxInt, -1 - n}
}

// The numbers of this table come from a computation of the chapter outside of this program.
func TestRootValues(t *testing.T) {
	for _, c := range []struct {
		n    int
		want uint64
	}{
		{0, 0x2e9b35ea981704be},
		{1, 0x8b0064bd52ea62b5},
		{2, 0xc9c0ae48ce90fa0e},
		{3, 0xac80aba4bf65dabf},
		{4, 0xeff00285005aa7a0},
		{5, 0xb5b5d9b75283a3af},
		{6, 0x81ad7da765443c4e},
		{7, 0x12a08a62be3aa6ee},
		{8, 0xd7c22de9ef2acecb},
		{9, 0xd5bdca35898a794a},
		{32, 0xd85a8790594f8ec6},
		{33, 0x67fc13907a69aebc},
		{255, 0xe9b955032cd42d35},
	} {
		if got := Root(unlike(c.n)); got != hash.Of(c.want) {
			t.Errorf("P3.1: Root of %d names: %x, want %x", c.n, got, c.want)
		}
	}
	for n, want := range []uint64{0x2e9b35ea981704be, 0x56cc1768f2575746, 0x678c06d666c417d3, 0xa05a7ae717ac517b} {
		if got := Root(make([]api.Name, n)); got != hash.Of(want) {
			t.Errorf("P3.1: Root of %d zero names: %x, want %x", n, got, want)
		}
	}
}

func TestRootOfSmallTrees(t *testing.T) {
	if Root(nil) != hash.Tagged(0x10, nil) || Root([]api.Name{}) != Root(nil) {
		t.Error("P3.1, R3: Root of no names is not that of no bytes")
	}
	l := unlike(3)
	if got := Root(l[:1]); got != hash.Tagged(0x11, l[0][:]) {
		t.Errorf("P3.1: Root of one name: %x", got)
	}
	two := hash.Pair(0x12, leafRoot(l[0]), leafRoot(l[1]))
	if got := Root(l[:2]); got != two {
		t.Errorf("P3.1: Root of two names: %x", got)
	}
	if got := Root(l); got != hash.Pair(0x12, two, leafRoot(l[2])) {
		t.Errorf("P3.1: Root of three names: %x", got)
	}
}

func TestRootOfAllSizes(t *testing.T) {
	for n := 1; n < 140; n++ {
		if got, want := Root(unlike(n)), rootByLevels(unlike(n)); got != want {
			t.Errorf("P3.1: Root of %d names: %x, want %x", n, got, want)
		}
	}
	for _, n := range []int{1023, 1024, 1025, 5000} {
		if got, want := Root(unlike(n)), rootByLevels(unlike(n)); got != want {
			t.Errorf("P3.1: Root of %d names: %x, want %x", n, got, want)
		}
	}
}

// TestRootKeepsOrderAndDuplicates checks that the list is a sequence: neither sorted nor freed of duplicates.
func TestRootKeepsOrderAndDuplicates(t *testing.T) {
	a, b := hash.Of(1), hash.Of(2)
	seen := map[api.Name]int{}
	for j, l := range [][]api.Name{{}, {a}, {b}, {a, a}, {a, b}, {b, a}, {b, b}, {a, a, a}, {a, a, b}, {a, b, a}, {b, a, a}, {{}}, {{}, {}}, {a, {}}, {{}, a}} {
		r := Root(l)
		if other, ok := seen[r]; ok {
			t.Errorf("P3.1: lists %d and %d have one root", other, j)
		}
		seen[r] = j
		if len(l) > 0 && r != rootByLevels(l) {
			t.Errorf("P3.1: Root of list %d is wrong", j)
		}
	}
}

func TestDepth(t *testing.T) {
	for _, c := range []struct{ i, n, want int }{
		{0, 1, 0},
		{0, 2, 1}, {1, 2, 1},
		{0, 3, 2}, {1, 3, 2}, {2, 3, 1},
		{0, 4, 2}, {3, 4, 2},
		{0, 5, 3}, {3, 5, 3}, {4, 5, 1},
		{3, 6, 3}, {4, 6, 2}, {5, 6, 2},
		{3, 7, 3}, {5, 7, 3}, {6, 7, 2},
		{0, 8, 3}, {7, 8, 3},
		{7, 9, 4}, {8, 9, 1},
		{31, 32, 5}, {32, 33, 1},
		{254, 255, 7}, {251, 255, 8},
		{0, 1 << 40, 40}, {1<<40 - 1, 1 << 40, 40},
		{0, 1<<40 + 1, 41}, {1 << 40, 1<<40 + 1, 1},
		{0, 1 << 62, 62}, {1<<62 - 1, 1 << 62, 62},
		{1 << 62, 1<<62 + 1, 1}, {1<<62 - 1, 1<<62 + 1, 63},
		{0, math.MaxInt, 63}, {1<<62 - 1, math.MaxInt, 63}, {1 << 62, math.MaxInt, 63}, {math.MaxInt - 1, math.MaxInt, 62},
	} {
		if got := Depth(c.i, c.n); got != c.want {
			t.Errorf("P3.1: Depth(%d, %d) = %d, want %d", c.i, c.n, got, c.want)
		}
	}
}

func TestDepthOfAllLeaves(t *testing.T) {
	for n := 1; n < 140; n++ {
		for i := range n {
			if got, want := Depth(i, n), len(pathByLevels(unlike(n), i)); got != want {
				t.Errorf("P3.1: Depth(%d, %d) = %d, want %d", i, n, got, want)
			}
		}
	}
}

func TestDepthOutside(t *testing.T) {
	for _, n := range []int{1, 2, 3, 7, 8, 1 << 40} {
		for _, i := range outside(n) {
			if got := Depth(i, n); got != -1 {
				t.Errorf("P3.1: Depth(%d, %d) = %d, want -1", i, n, got)
			}
		}
	}
	for _, n := range []int{0, -1, -2, -8, math.MinInt, math.MinInt + 1} {
		for _, i := range []int{0, 1, -1, -2, n, n - 1, n + 1, math.MinInt, math.MaxInt} {
			if got := Depth(i, n); got != -1 {
				t.Errorf("P3.1: Depth(%d, %d) = %d, want -1", i, n, got)
			}
		}
	}
	for _, i := range []int{-1, math.MinInt, math.MaxInt} {
		if got := Depth(i, math.MaxInt); got != -1 {
			t.Errorf("P3.1: Depth(%d, MaxInt) = %d, want -1", i, got)
		}
	}
}

// The numbers of this table come from a computation of the chapter outside of this program.
func TestPathValues(t *testing.T) {
	for _, c := range []struct {
		n, i int
		want []uint64
	}{
		{1, 0, nil},
		{2, 0, []uint64{0x5e2e45fd2b71a3d9}},
		{2, 1, []uint64{0x8b0064bd52ea62b5}},
		{3, 0, []uint64{0x5e2e45fd2b71a3d9, 0x12845a3364437dea}},
		{3, 2, []uint64{0xc9c0ae48ce90fa0e}},
		{5, 3, []uint64{0x12845a3364437dea, 0xc9c0ae48ce90fa0e, 0xd2ceb8258aeee12a}},
		{5, 4, []uint64{0xeff00285005aa7a0}},
		{7, 6, []uint64{0xd5991a3e405a72ad, 0xeff00285005aa7a0}},
		{8, 5, []uint64{0xd2ceb8258aeee12a, 0xb456f24845844b04, 0xeff00285005aa7a0}},
		{9, 8, []uint64{0xd7c22de9ef2acecb}},
	} {
		if got, ok := Path(unlike(c.n), c.i); !ok || !slices.Equal(got, ofNumbers(c.want)) {
			t.Errorf("P3.2: Path of leaf %d of %d: %x, %v, want %x", c.i, c.n, got, ok, c.want)
		}
	}
}

func TestPathOfAllLeaves(t *testing.T) {
	for n := 1; n < 80; n++ {
		for i := range n {
			if got, ok := Path(unlike(n), i); !ok || !slices.Equal(got, pathByLevels(unlike(n), i)) {
				t.Errorf("P3.2: Path of leaf %d of %d: %x, %v", i, n, got, ok)
			}
		}
	}
}

func TestPathOutside(t *testing.T) {
	for n := range 20 {
		for _, i := range outside(n) {
			if i >= 0 && i < n {
				continue
			}
			if got, ok := Path(unlike(n), i); ok || len(got) > 0 {
				t.Errorf("P3.2, R4: Path of leaf %d of %d: %x, %v", i, n, got, ok)
			}
		}
	}
	for _, i := range []int{0, 1, -1, math.MinInt, math.MaxInt} {
		if got, ok := Path(nil, i); ok || len(got) > 0 {
			t.Errorf("P3.2, R3, R4: Path(nil, %d) = %x, %v", i, got, ok)
		}
	}
}

func TestFollowPaths(t *testing.T) {
	for n := 1; n < 80; n++ {
		l := unlike(n)
		want := rootByLevels(l)
		for i := range n {
			path := pathByLevels(l, i)
			if got, ok := Follow(l[i], i, n, path); !ok || got != want {
				t.Errorf("P3.3: Follow of leaf %d of %d: %x, %v, want %x", i, n, got, ok, want)
			}
			if !Verify(want, l[i], i, n, path) {
				t.Errorf("P3.3: Verify refuses leaf %d of %d", i, n)
			}
		}
	}
}

// TestFollowHugeTrees follows paths in trees that no list could hold.
func TestFollowHugeTrees(t *testing.T) {
	path, leaf := unlike(63), hash.Of(99)
	left, right := leafRoot(leaf), leafRoot(leaf)
	for _, p := range path[:62] {
		left, right = hash.Pair(0x12, left, p), hash.Pair(0x12, p, right)
	}
	if got, ok := Follow(leaf, 0, 1<<62, path[:62]); !ok || got != left {
		t.Errorf("P3.3: Follow of the first leaf of 2^62: %x, %v, want %x", got, ok, left)
	}
	if got, ok := Follow(leaf, math.MaxInt-1, math.MaxInt, path[:62]); !ok || got != right {
		t.Errorf("P3.3: Follow of the last leaf of MaxInt: %x, %v, want %x", got, ok, right)
	}
	if got, ok := Follow(leaf, 0, math.MaxInt, path); !ok || got != hash.Pair(0x12, left, path[62]) {
		t.Errorf("P3.3: Follow of the first leaf of MaxInt: %x, %v", got, ok)
	}
	if got, ok := Follow(leaf, 1<<40, 1<<40+1, path[:1]); !ok || got != hash.Pair(0x12, path[0], leafRoot(leaf)) {
		t.Errorf("P3.3: Follow of the last leaf of 2^40 + 1: %x, %v", got, ok)
	}
}

func TestFollowRefusesPositions(t *testing.T) {
	leaf := hash.Of(99)
	for _, n := range []int{1, 2, 3, 8, 9, 1 << 40, math.MaxInt / 4} {
		for _, i := range outside(n) {
			for length := range 66 {
				if got, ok := Follow(leaf, i, n, unlike(length)); ok || got != (api.Name{}) {
					t.Fatalf("P3.3, R4: Follow at %d of %d with %d names: %x, %v", i, n, length, got, ok)
				}
			}
		}
	}
	for _, n := range []int{0, -1, -8, math.MinInt} {
		for _, i := range []int{0, 1, -1, n, n - 1, math.MinInt, math.MaxInt} {
			for length := range 3 {
				if got, ok := Follow(leaf, i, n, unlike(length)); ok || got != (api.Name{}) {
					t.Fatalf("P3.3, R4: Follow at %d of %d with %d names: %x, %v", i, n, length, got, ok)
				}
				for _, root := range []api.Name{{}, Root(nil), leafRoot(leaf)} {
					if Verify(root, leaf, i, n, unlike(length)) {
						t.Fatalf("P3.3: Verify accepts position %d of %d with %d names", i, n, length)
					}
				}
			}
		}
	}
}

func TestFollowRefusesLengths(t *testing.T) {
	for n := 1; n < 40; n++ {
		for i := range n {
			for length := range 10 {
				got, ok := Follow(hash.Of(99), i, n, unlike(length))
				if ok != (length == Depth(i, n)) || !ok && got != (api.Name{}) {
					t.Errorf("P3.3, R4: Follow of leaf %d of %d with %d names: %x, %v", i, n, length, got, ok)
				}
			}
		}
	}
	// A refused path must not pass for one that leads to the zero name.
	if Verify(api.Name{}, hash.Of(99), 0, 2, nil) || Verify(api.Name{}, hash.Of(99), 5, 2, unlike(1)) {
		t.Error("P3.3: Verify accepts the zero name as the root of a refused path")
	}
	if !Verify(leafRoot(hash.Of(99)), hash.Of(99), 0, 1, nil) || !Verify(leafRoot(hash.Of(99)), hash.Of(99), 0, 1, []api.Name{}) {
		t.Error("P3.3, R3: Verify refuses the only leaf of a tree")
	}
}

func TestVerifyPaths(t *testing.T) {
	for n := 1; n < 80; n++ {
		l := unlike(n)
		for i := range n {
			if path, ok := Path(l, i); !ok || len(path) != Depth(i, n) || !Verify(Root(l), l[i], i, n, path) {
				t.Errorf("P3.4: the path of leaf %d of %d is refused: %x, %v", i, n, path, ok)
			}
		}
	}
	for n := 1; n < 20; n++ {
		l := make([]api.Name, n) // equal leaves, so that all positions look alike
		for i := range n {
			if path, ok := Path(l, i); !ok || !Verify(Root(l), l[i], i, n, path) {
				t.Errorf("P3.4: the path of leaf %d of %d equal ones is refused", i, n)
			}
		}
	}
}

// flips returns all names that differ from x in one bit.
func flips(x api.Name) []api.Name {
	var l []api.Name
	for bit := range 64 {
		l = append(l, hash.Of(hash.Number(x)^1<<bit))
	}
	return l
}

func TestVerifyRefusesChanges(t *testing.T) {
	for _, n := range []int{1, 2, 3, 5, 8, 11} {
		l := unlike(n)
		root := Root(l)
		for i := range n {
			path, _ := Path(l, i)
			for _, x := range flips(root) {
				if Verify(x, l[i], i, n, path) {
					t.Errorf("P3.3: a changed root is accepted for leaf %d of %d", i, n)
				}
			}
			for _, x := range flips(l[i]) {
				if Verify(root, x, i, n, path) {
					t.Errorf("P3.3, P3.4: a changed leaf is accepted at %d of %d", i, n)
				}
			}
			for j := range path {
				for _, x := range flips(path[j]) {
					changed := slices.Clone(path)
					changed[j] = x
					if Verify(root, l[i], i, n, changed) {
						t.Errorf("P3.3: a path changed at %d is accepted for leaf %d of %d", j, i, n)
					}
				}
			}
		}
	}
}

// TestVerifyRefusesOtherPositions gives the path of one leaf for another position and for another leaf of the same tree.
func TestVerifyRefusesOtherPositions(t *testing.T) {
	for n := 1; n < 25; n++ {
		l := unlike(n)
		for i := range n {
			path, _ := Path(l, i)
			for j := range n {
				if Verify(Root(l), l[i], j, n, path) != (i == j) {
					t.Errorf("P3.3: leaf %d of %d at position %d", i, n, j)
				}
				if Verify(Root(l), l[j], i, n, path) != (i == j) {
					t.Errorf("P3.4: leaf %d of %d with the path of leaf %d", j, n, i)
				}
			}
		}
	}
}

// TestLeavesAreBound checks P3.4 by recomputing, for two unlike leaves with paths of any names, the inputs of hash.Tagged and hash.Pair: without a collision among them the roots are unlike.
func TestLeavesAreBound(t *testing.T) {
	roots := map[api.Name]api.Name{}
	for seed := range 40 {
		path := []api.Name{hash.Of(uint64(seed % 2)), hash.Of(uint64(seed / 2 % 2)), hash.Of(uint64(seed / 4))}
		for v := range 20 {
			leaf := hash.Of(uint64(v))
			root, ok := Follow(leaf, 2, 5, path)
			inner := hash.Pair(0x12, path[1], hash.Pair(0x12, leafRoot(leaf), path[0]))
			if want := hash.Pair(0x12, inner, path[2]); !ok || root != want {
				t.Fatalf("P3.3: Follow(%x, 2, 5, %x) = %x, %v, want %x", leaf, path, root, ok, want)
			}
			if other, ok := roots[root]; ok && other != leaf {
				t.Errorf("P3.4: the leaves %x and %x are accepted for one root", other, leaf)
			}
			roots[root] = leaf
		}
	}
}

// TestLeafIsNoNode checks that a leaf made of the roots of subtrees is not taken for them, which is why leaves and inner nodes have unlike tags.
func TestLeafIsNoNode(t *testing.T) {
	l := unlike(2)
	if x := hash.Pair(0x12, leafRoot(l[0]), leafRoot(l[1])); Root([]api.Name{x}) == Root(l) || Verify(Root(l), x, 0, 1, nil) {
		t.Error("P3.1, P3.4: the root of two names passes for a single leaf")
	}
	if Root([]api.Name{l[0], l[1]}) == hash.Pair(0x12, l[0], l[1]) {
		t.Error("P3.1: leaves are not hashed")
	}
}

func TestArgumentsAreKept(t *testing.T) {
	room := unlike(40)
	for n := range 30 {
		l := room[:n]
		Root(l)
		for i := range n {
			path, _ := Path(l, i)
			Follow(l[i], i, n, path[:len(path):cap(path)])
			clear(path[:cap(path)])
			Follow(l[i], i, n, room[:Depth(i, n)])
			Verify(Root(l), l[i], i, n, room[:Depth(i, n)])
		}
		if !slices.Equal(room, unlike(40)) {
			t.Fatalf("R2: an argument of %d names is changed or shared", n)
		}
	}
}

func TestPathsShareNoMemory(t *testing.T) {
	for n := 1; n < 20; n++ {
		l := unlike(n)
		first, _ := Path(l, 0)
		before := slices.Clone(first)
		for i := range n {
			path, _ := Path(l, i)
			clear(path[:cap(path)])
			clear(append(path, hash.Of(1)))
		}
		clear(l)
		if !slices.Equal(first, before) {
			t.Errorf("R2: the path of leaf 0 of %d changes with other paths or with the leaves", n)
		}
	}
}

// TestExtendCopies extends one path twice: the second subtree must not write over what the first one appended.
func TestExtendCopies(t *testing.T) {
	room := unlike(8)
	a := extend(room[:3], hash.Of(1))
	b := extend(room[:3], hash.Of(2))
	if a[3] != hash.Of(1) || b[3] != hash.Of(2) || !slices.Equal(room, unlike(8)) {
		t.Error("Ways: extending a path writes into the room behind it")
	}
	if !slices.Equal(a[:3], room[:3]) || !slices.Equal(extend(nil, hash.Of(3)), []api.Name{hash.Of(3)}) {
		t.Error("P3.2: extending a path loses names")
	}
}

// TestReadOnlyWithinLength reads lists whose further names are there, but beyond the length.
func TestReadOnlyWithinLength(t *testing.T) {
	room := unlike(40)
	for n := range 30 {
		if Root(room[:n]) != Root(unlike(n)) {
			t.Errorf("R2: Root of %d names depends on the names behind them", n)
		}
		if _, ok := Path(room[:n], n); ok {
			t.Errorf("P3.2, R2: Path finds a leaf behind %d names", n)
		}
	}
	path, _ := Path(room[:9], 0)
	if root, ok := Follow(room[0], 0, 9, path[:3]); ok || root != (api.Name{}) {
		t.Error("P3.3, R2: Follow reads a name behind the path")
	}
}
