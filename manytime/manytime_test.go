package manytime

import (
	"bytes"
	"encoding/hex"
	"math"
	"math/rand"
	"slices"
	"testing"

	"forkledger/api"
	"forkledger/hash"
	"forkledger/merkle"
	"forkledger/onetime"
)

// noLevels are numbers of levels that no key has.
var noLevels = []int{0, -1, -2, 3, 4, 32, 1 << 32, 1<<32 + 1, math.MaxInt, math.MinInt, math.MinInt + 1, math.MinInt + 2}

// outside are leaves that no key of the capacity has.
func outside(capacity int) []int {
	return []int{-1, -2, -capacity, -capacity + 1, capacity, capacity + 1, 2 * capacity, 1 << 16, 1<<16 + 1, 1 << 32, math.MinInt, math.MinInt + 1, math.MaxInt}
}

// wantedSize returns the length of a signature and wantedCapacity the number of leaves, as P5.1 gives them.
func wantedSize(levels int) int { return 2 + 184*levels }

func wantedCapacity(levels int) int { return []int{0, 32, 1024}[levels] }

// seedOf returns the seed of key j of the tree of level l and number n.
func seedOf(seed api.Name, l, n, j int) api.Name {
	return hash.Tagged(0x30, append(bytes.Clone(seed[:]), byte(l), byte(n>>8), byte(n), byte(j)))
}

// publicsOf returns the public names of the keys of a tree.
func publicsOf(seed api.Name, l, n int) []api.Name {
	var names []api.Name
	for j := 0; j < 32; j++ {
		names = append(names, onetime.Public(seedOf(seed, l, n, j)))
	}
	return names
}

// bytesOf returns the bytes of names.
func bytesOf(names []api.Name) []byte {
	var b []byte
	for _, n := range names {
		b = append(b, n[:]...)
	}
	return b
}

// partOf returns what one level adds to a signature, given the public names of the tree's keys.
func partOf(seed api.Name, l, n, j int, publics []api.Name, m api.Name) []byte {
	path, _ := merkle.Path(publics, j)
	return append(bytesOf(onetime.Sign(seedOf(seed, l, n, j), m)), bytesOf(path)...)
}

// signatureOf puts a signature together from its parts, as P5.2 lists them.
func signatureOf(seed api.Name, levels, leaf int, m api.Name) []byte {
	below := publicsOf(seed, 1, leaf/32)
	sig := append([]byte{byte(leaf >> 8), byte(leaf)}, partOf(seed, 1, leaf/32, leaf%32, below, m)...)
	if levels == 2 {
		sig = append(sig, partOf(seed, 2, 0, leaf/32, publicsOf(seed, 2, 0), merkle.Root(below))...)
	}
	return sig
}

// rootOf computes the root to which a part of 184 bytes leads from m at position j.
func rootOf(m api.Name, j int, part []byte) api.Name {
	var names []api.Name
	for len(part) > 0 {
		names, part = append(names, api.Name(part[:8])), part[8:]
	}
	leaf, _ := onetime.Recover(m, names[:18])
	root := hash.Tagged(0x11, leaf[:])
	for _, beside := range names[18:] {
		if j%2 == 0 {
			root = hash.Pair(0x12, root, beside)
		} else {
			root = hash.Pair(0x12, beside, root)
		}
		j /= 2
	}
	return root
}

func TestCapacityAndSize(t *testing.T) {
	if c, s := Capacity(1), Size(1); c != 32 || s != 186 {
		t.Errorf("P5.1: one level: Capacity = %d, Size = %d", c, s)
	}
	if c, s := Capacity(2), Size(2); c != 1024 || s != 370 {
		t.Errorf("P5.1: two levels: Capacity = %d, Size = %d", c, s)
	}
	for _, levels := range noLevels {
		if c, s := Capacity(levels), Size(levels); c != 0 || s != 0 {
			t.Errorf("P5.1: %d levels: Capacity = %d, Size = %d", levels, c, s)
		}
	}
}

// The numbers of this table come from a computation of the chapter outside of this program.
func TestPublicValues(t *testing.T) {
	for _, c := range []struct{ seed, one, two uint64 }{
		{0, 0x773912191812bdc5, 0x7cb09b2a1dba64bb},
		{1, 0x2f372c5e0bb7acfb, 0x041162780e8c0832},
		{77, 0x8e5f4d4c339ddbb8, 0xe3b0722072275f1a},
		{0x0123456789abcdef, 0x86e7cc8c6f72e513, 0x8bdb0dd534362a9b},
		{1<<64 - 1, 0x0cc947bf14d9425c, 0xd5aaa0226a4469ca},
	} {
		if got := Public(hash.Of(c.seed), 1); got != hash.Of(c.one) {
			t.Errorf("P5.1: Public(%x, 1) = %x, want %x", c.seed, got, c.one)
		}
		if got := Public(hash.Of(c.seed), 2); got != hash.Of(c.two) {
			t.Errorf("P5.1: Public(%x, 2) = %x, want %x", c.seed, got, c.two)
		}
	}
}

func TestPublicIsRootOfTopTree(t *testing.T) {
	for v := range uint64(5) {
		for levels := 1; levels <= 2; levels++ {
			seed := hash.Of(v<<60 | v)
			if got, want := Public(seed, levels), merkle.Root(publicsOf(seed, levels, 0)); got != want {
				t.Errorf("P5.1: Public(%x, %d) = %x, want %x", seed, levels, got, want)
			}
		}
	}
}

func TestNoLevels(t *testing.T) {
	seed, m := hash.Of(77), hash.Of(5)
	sig, _ := Sign(seed, 1, 0, m)
	for _, levels := range noLevels {
		if got := Public(seed, levels); got != (api.Name{}) {
			t.Errorf("P5.1: Public with %d levels: %x", levels, got)
		}
		for _, leaf := range append(outside(32), 0, 1, 31, 1023) {
			if got, ok := Sign(seed, levels, leaf, m); ok || len(got) > 0 {
				t.Errorf("P5.2, R4: Sign with %d levels, leaf %d: %x, %v", levels, leaf, got, ok)
			}
		}
		// With no levels to climb, m itself or the zero name must not pass for the public key.
		for _, public := range []api.Name{{}, m, Public(seed, 1)} {
			for _, s := range [][]byte{nil, {}, {0}, {0, 0}, sig, make([]byte, 370), make([]byte, 554)} {
				if Verify(public, levels, m, s) {
					t.Errorf("P5.3: Verify with %d levels accepts %d bytes for %x", levels, len(s), public)
				}
			}
		}
		if NewKey(seed, levels) != nil {
			t.Errorf("P5.5: NewKey with %d levels is not nil", levels)
		}
	}
}

// The hashes of this table, and the bytes below, come from a computation of the chapter outside of this program.
func TestSignValues(t *testing.T) {
	for _, c := range []struct {
		seed         uint64
		levels, leaf int
		m, want      uint64
	}{
		{0, 1, 0, 0, 0xd72eeada4aca53ea},
		{77, 1, 9, 0x0123456789abcdef, 0x50300f2efd74a6e9},
		{77, 1, 31, 1<<64 - 1, 0x9c6d52068257c771},
		{77, 1, 16, 1, 0x0d451e738ed3d79b},
		{0, 2, 0, 0, 0x10b3b3723a83fbf1},
		{77, 2, 9, 0x0123456789abcdef, 0x9337c0e0b2916480},
		{77, 2, 103, 0x0123456789abcdef, 0xfc4cbac713dbbc1d},
		{1, 2, 512, 0xa0b1c2d3e4f50617, 0x1df6af692f3e4c25},
		{1<<64 - 1, 2, 1023, 1<<64 - 1, 0x1809f9b2a7b4e71c},
		{77, 2, 31, 5, 0xad823a26526fda5e},
		{77, 2, 32, 5, 0x056a6d7af98ad72d},
		{77, 2, 992, 5, 0xa6924803ab49e8f6},
	} {
		got, ok := Sign(hash.Of(c.seed), c.levels, c.leaf, hash.Of(c.m))
		if !ok || len(got) != wantedSize(c.levels) || hash.Sum(got) != hash.Of(c.want) {
			t.Errorf("P5.2: Sign(%x, %d, %d, %x) = %x, %v", c.seed, c.levels, c.leaf, c.m, got, ok)
		}
	}
	want := "0067" +
		"2f33bc1de795f5867881ba4ab98747fe422d06489438cc2e4f2e2b6fa4464539a8f01c1ae68875b33de240072e2a8618" +
		"a887ebf76e294de2774ea491de5ffbd5e7dc8a2329f3933946df242f2ecddb533e9fcb415186e3a8a71b1235cf9feef5" +
		"f43ac8a4ab84353adcfe3047f3f93014448920d78b90073d54784bf4344c03cfaaf543477f5fb2d2013203b4891766be" +
		"b20f1ce11c8a1c7f09bd63a500c7005fa04822bba6328d8abb3a3f72eb11768f3965b301bcf85c60" +
		"459924ce5763c3e099d8ff774a87600cd179e15433b51491aeb02a493f3820385adf64e53d36f0dd672814e56593fe27" +
		"6c179bf282e4f3d81d74900f3af219daba1f5566c3c3c47eea5b76e2838705acd96cd551db05007cad6cc0d4e40af6aa" +
		"3577c83f90d4f44fd189dd1f120d202ce5965dc52a16342635d18a3efd0b9dc4075c6aa51b951814a4cbd3d4df2f287b" +
		"eb40df4ab1f9c7e3ac9bc50450a99b74834a2aa6e7173c43c40ede43616b1af75874d45b80c576b4"
	got, _ := Sign(hash.Of(77), 2, 103, hash.Of(0x0123456789abcdef))
	if hex.EncodeToString(got) != want {
		t.Errorf("P5.2: Sign(77, 2, 103) = %x, want %s", got, want)
	}
}

func TestSignPutsPartsInOrder(t *testing.T) {
	seed := hash.Of(0xa0b1c2d3e4f50617)
	for leaf := range 32 {
		m := hash.Of(uint64(leaf) * 0x123456789abcdef)
		if got, ok := Sign(seed, 1, leaf, m); !ok || !bytes.Equal(got, signatureOf(seed, 1, leaf, m)) {
			t.Errorf("P5.2: Sign with one level, leaf %d: %x, %v", leaf, got, ok)
		}
	}
	for _, leaf := range []int{0, 1, 31, 32, 33, 63, 64, 255, 256, 257, 511, 512, 991, 992, 1022, 1023} {
		m := hash.Of(uint64(leaf) * 0x123456789abcdef)
		if got, ok := Sign(seed, 2, leaf, m); !ok || !bytes.Equal(got, signatureOf(seed, 2, leaf, m)) {
			t.Errorf("P5.2: Sign with two levels, leaf %d: %x, %v", leaf, got, ok)
		}
	}
}

func TestSignRefusesLeaves(t *testing.T) {
	for levels := 1; levels <= 2; levels++ {
		k := NewKey(hash.Of(77), levels)
		for _, leaf := range outside(wantedCapacity(levels)) {
			if got, ok := Sign(hash.Of(77), levels, leaf, hash.Of(5)); ok || len(got) > 0 {
				t.Errorf("P5.2, R4: Sign with %d levels, leaf %d: %x, %v", levels, leaf, got, ok)
			}
			if got, ok := k.Sign(leaf, hash.Of(5)); ok || len(got) > 0 {
				t.Errorf("P5.5, R4: a key of %d levels signs by leaf %d: %x, %v", levels, leaf, got, ok)
			}
		}
	}
}

// TestVerifyOfAnyBytes makes signatures of arbitrary bytes: Verify accepts exactly the root to which they lead.
func TestVerifyOfAnyBytes(t *testing.T) {
	r := rand.New(rand.NewSource(1))
	for range 200 {
		levels := 1 + r.Intn(2)
		leaf, m := r.Intn(wantedCapacity(levels)), hash.Of(r.Uint64())
		sig := make([]byte, wantedSize(levels))
		if r.Intn(4) > 0 {
			r.Read(sig)
		}
		sig[0], sig[1] = byte(leaf>>8), byte(leaf)
		lower := rootOf(m, leaf%32, sig[2:186])
		root := lower
		if levels == 2 {
			root = rootOf(lower, leaf/32, sig[186:])
		}
		if !Verify(root, levels, m, sig) {
			t.Fatalf("P5.3: Verify with %d levels refuses %x for %x", levels, sig, root)
		}
		for _, other := range []api.Name{{}, m, hash.Of(r.Uint64()), hash.Of(hash.Number(root) ^ 1<<r.Intn(64))} {
			if Verify(other, levels, m, sig) {
				t.Fatalf("P5.3: Verify with %d levels accepts %x for %x", levels, sig, other)
			}
		}
		if levels == 2 && Verify(lower, levels, m, sig) {
			t.Fatalf("P5.3: Verify accepts the root of the lower tree of %x", sig)
		}
	}
}

func TestVerifyRefusesEachChangedBit(t *testing.T) {
	for levels := 1; levels <= 2; levels++ {
		k, m := NewKey(hash.Of(77), levels), hash.Of(0x0123456789abcdef)
		public := k.Public()
		for _, leaf := range []int{0, 21, wantedCapacity(levels) - 1} {
			sig, _ := k.Sign(leaf, m)
			if !Verify(public, levels, m, sig) {
				t.Fatalf("P5.3: Verify refuses leaf %d of %d levels", leaf, levels)
			}
			for bit := range 8 * len(sig) {
				sig[bit/8] ^= 1 << (bit % 8)
				if Verify(public, levels, m, sig) {
					t.Errorf("P5.3: bit %d of the signature by leaf %d of %d levels is not checked", bit, leaf, levels)
				}
				sig[bit/8] ^= 1 << (bit % 8)
			}
			for bit := range 64 {
				if Verify(public, levels, hash.Of(hash.Number(m)^1<<bit), sig) || Verify(hash.Of(hash.Number(public)^1<<bit), levels, m, sig) {
					t.Errorf("P5.3: bit %d of the name or of the public key is not checked", bit)
				}
			}
		}
	}
}

func TestVerifyRefusesLengths(t *testing.T) {
	for levels := 1; levels <= 2; levels++ {
		k, m := NewKey(hash.Of(77), levels), hash.Of(5)
		sig, _ := k.Sign(3, m)
		long := append(bytes.Clone(sig), make([]byte, 400)...)
		for n := range long {
			if got := Verify(k.Public(), levels, m, long[:n]); got != (n == wantedSize(levels)) {
				t.Errorf("P5.3: Verify of %d bytes with %d levels: %v", n, levels, got)
			}
		}
		if Verify(k.Public(), levels, m, nil) || Verify(api.Name{}, levels, m, nil) {
			t.Errorf("P5.3, R3: Verify accepts nil with %d levels", levels)
		}
	}
}

// TestVerifyRefusesLeaves gives a signature each other number of a leaf, those beyond the capacity too: modulo 32 these are positions in a tree.
func TestVerifyRefusesLeaves(t *testing.T) {
	for levels := 1; levels <= 2; levels++ {
		k, m := NewKey(hash.Of(77), levels), hash.Of(5)
		public := k.Public()
		sig, _ := k.Sign(21, m)
		for leaf := range 1 << 16 {
			if leaf >= 4096 && leaf%1024 != 21 {
				continue
			}
			sig[0], sig[1] = byte(leaf>>8), byte(leaf)
			if got := Verify(public, levels, m, sig); got != (leaf == 21) {
				t.Errorf("P5.3: the signature by leaf 21 of %d levels, given the leaf %d: %v", levels, leaf, got)
			}
		}
	}
}

func TestVerifyRefusesOtherLevels(t *testing.T) {
	seed, m := hash.Of(77), hash.Of(5)
	one, _ := Sign(seed, 1, 9, m)
	two, _ := Sign(seed, 2, 9, m)
	for _, public := range []api.Name{Public(seed, 1), Public(seed, 2)} {
		if Verify(public, 2, m, one) || Verify(public, 1, m, two) {
			t.Error("P5.3: a signature with other levels is accepted")
		}
	}
	// The trees of level 1 and number 0 are the same with one level and with two levels, so the beginnings of signatures are too.
	if !bytes.Equal(one, two[:186]) || !Verify(Public(seed, 1), 1, m, two[:186]) || Verify(Public(seed, 2), 1, m, one) {
		t.Error("P5.2, P5.3: the tree of level 1 and number 0 depends on the levels")
	}
}

// TestVerifyRefusesMixedParts joins parts of signatures that are all in order.
func TestVerifyRefusesMixedParts(t *testing.T) {
	k, other, m := NewKey(hash.Of(77), 2), NewKey(hash.Of(78), 2), hash.Of(5)
	a, _ := k.Sign(3*32+7, m)
	b, _ := k.Sign(4*32+7, m)
	c, _ := other.Sign(3*32+7, m)
	for i, sig := range [][]byte{
		slices.Concat(a[:186], b[186:]),
		slices.Concat(b[:186], a[186:]),
		slices.Concat(a[:2], b[2:]),
		slices.Concat(a[:186], c[186:]),
		slices.Concat(c[:186], a[186:]),
		slices.Concat(a[:2], a[186:], a[2:186]),
		slices.Concat(a[:186], a[2:186]),
	} {
		if Verify(k.Public(), 2, m, sig) {
			t.Errorf("P5.3: mixed parts are accepted, case %d", i)
		}
	}
	if Verify(other.Public(), 2, m, a) || !Verify(other.Public(), 2, m, c) {
		t.Error("P5.3: the signatures of two keys are not told apart")
	}
}

func TestLeaf(t *testing.T) {
	for _, c := range []struct {
		sig  string
		want int
	}{
		{"\x00\x00", 0},
		{"\x00\x01", 1},
		{"\x01\x00", 256},
		{"\x03\xff", 1023},
		{"\x04\x00", 1024},
		{"\xff\xfe", 65534},
		{"\xff\xff", 65535},
		{"\x01\x02\x03", 258},
		{"\x80\x00" + string(make([]byte, 400)), 32768},
	} {
		if got, ok := Leaf([]byte(c.sig)); !ok || got != c.want {
			t.Errorf("P5.4: Leaf of %x: %d, %v, want %d", c.sig, got, ok, c.want)
		}
	}
	room := []byte{7, 7, 7}
	for _, sig := range [][]byte{nil, {}, {0}, {7}, room[:1], room[:0]} {
		if got, ok := Leaf(sig); ok || got != 0 {
			t.Errorf("P5.4, R4: Leaf of %d bytes: %d, %v", len(sig), got, ok)
		}
	}
}

func TestKeyDoesWhatTheFunctionsDo(t *testing.T) {
	for levels := 1; levels <= 2; levels++ {
		k := NewKey(hash.Of(77), levels)
		last := wantedCapacity(levels) - 1
		for i, leaf := range []int{5, 0, last, 31, 5, last / 2, 0, last, 5} {
			m := hash.Of(uint64(i / 2))
			want, _ := Sign(hash.Of(77), levels, leaf, m)
			if got, ok := k.Sign(leaf, m); !ok || !bytes.Equal(got, want) {
				t.Errorf("P5.5: signature %d of a key of %d levels, by leaf %d: %x, %v", i, levels, leaf, got, ok)
			}
			if got := k.Public(); got != Public(hash.Of(77), levels) {
				t.Errorf("P5.5: Public of a key of %d levels after signature %d: %x", levels, i, got)
			}
		}
	}
}

func TestKeysOfUnlikeSeeds(t *testing.T) {
	a, b, c := NewKey(hash.Of(1), 2), NewKey(hash.Of(2), 2), NewKey(hash.Of(1), 1)
	for _, leaf := range []int{0, 31} {
		for i, k := range []*Key{a, b, c} {
			want, _ := Sign([]api.Name{hash.Of(1), hash.Of(2), hash.Of(1)}[i], []int{2, 2, 1}[i], leaf, hash.Of(5))
			if got, ok := k.Sign(leaf, hash.Of(5)); !ok || !bytes.Equal(got, want) {
				t.Errorf("P5.5, R6: key %d signs by leaf %d as another one: %x, %v", i, leaf, got, ok)
			}
		}
	}
	if a.Public() == b.Public() || a.Public() == c.Public() || b.Public() == c.Public() {
		t.Error("P5.5: unlike keys have one public key")
	}
}

func TestKeyWithoutLevels(t *testing.T) {
	for i, k := range []*Key{nil, {}, new(Key)} {
		if got := k.Public(); got != (api.Name{}) {
			t.Errorf("P5.5, R1: Public of key %d: %x", i, got)
		}
		for _, leaf := range append(outside(32), 0, 1, 31) {
			if got, ok := k.Sign(leaf, hash.Of(5)); ok || len(got) > 0 {
				t.Errorf("P5.5, R1, R4: key %d signs by leaf %d: %x, %v", i, leaf, got, ok)
			}
		}
	}
}

// TestAllLeaves signs one name by all leaves: all signatures are accepted, and no two are equal.
func TestAllLeaves(t *testing.T) {
	for levels := 1; levels <= 2; levels++ {
		k, m := NewKey(hash.Of(0xfedcba9876543210), levels), hash.Of(0xa0b1c2d3e4f50617)
		public, seen, parts := k.Public(), map[string]int{}, map[string]int{}
		for leaf := range wantedCapacity(levels) {
			sig, ok := k.Sign(leaf, m)
			if !ok || !Verify(public, levels, m, sig) {
				t.Fatalf("P5.6: the signature by leaf %d of %d levels is refused", leaf, levels)
			}
			if got, ok := Leaf(sig); !ok || got != leaf {
				t.Errorf("P5.2, P5.4: Leaf of the signature by leaf %d: %d, %v", leaf, got, ok)
			}
			if other, ok := seen[string(sig)]; ok {
				t.Errorf("P5.6: leaves %d and %d have one signature", other, leaf)
			}
			// No one-time key serves two leaves.
			if other, ok := parts[string(sig[2:146])]; ok {
				t.Errorf("P5.2: leaves %d and %d have one one-time key", other, leaf)
			}
			seen[string(sig)], parts[string(sig[2:146])] = leaf, leaf
		}
	}
}

func TestRandomSignaturesAreAccepted(t *testing.T) {
	r := rand.New(rand.NewSource(2))
	for range 60 {
		levels := 1 + r.Intn(2)
		seed, m := hash.Of(r.Uint64()), hash.Of(r.Uint64())
		leaf := r.Intn(wantedCapacity(levels))
		if sig, ok := Sign(seed, levels, leaf, m); !ok || !Verify(Public(seed, levels), levels, m, sig) {
			t.Fatalf("P5.6: Sign(%x, %d, %d, %x) is refused: %x, %v", seed, levels, leaf, m, sig, ok)
		}
	}
}

func TestResultsAreNewMemory(t *testing.T) {
	for levels := 1; levels <= 2; levels++ {
		k, m := NewKey(hash.Of(77), levels), hash.Of(5)
		sig, _ := k.Sign(3, m)
		kept := bytes.Clone(sig)
		for range 3 {
			again, _ := k.Sign(3, m)
			clear(again[:cap(again)])
		}
		if again, ok := k.Sign(3, m); !ok || !bytes.Equal(again, kept) || !bytes.Equal(sig, kept) {
			t.Errorf("R2: a signature of %d levels shares memory with another one or with the key", levels)
		}
		if !Verify(k.Public(), levels, m, kept) {
			t.Errorf("R2: the key of %d levels changes with its signatures", levels)
		}
	}
}

// TestArgumentsAreKept gives Verify and Leaf parts of a longer slice.
func TestArgumentsAreKept(t *testing.T) {
	for levels := 1; levels <= 2; levels++ {
		m := hash.Of(5)
		sig, _ := Sign(hash.Of(77), levels, 3, m)
		room := append(bytes.Clone(sig), bytes.Repeat([]byte{9}, 400)...)
		before := bytes.Clone(room)
		for _, n := range []int{0, 1, 2, 3, len(sig) - 1, len(sig), len(sig) + 1, len(room)} {
			if got := Verify(Public(hash.Of(77), levels), levels, m, room[:n]); got != (n == len(sig)) {
				t.Errorf("R2: Verify reads beyond %d bytes: %v", n, got)
			}
			if _, ok := Leaf(room[:n]); ok != (n >= 2) {
				t.Errorf("R2: Leaf reads beyond %d bytes: %v", n, ok)
			}
			if !bytes.Equal(room, before) {
				t.Fatalf("R2: Verify or Leaf changes its argument of %d bytes", n)
			}
		}
	}
}

// TestCopiesOfKeys copies a key that has some of its trees; the copies sign on their own.
func TestCopiesOfKeys(t *testing.T) {
	k := NewKey(hash.Of(77), 2)
	k.Sign(3, hash.Of(5))
	other := *k
	for _, leaf := range []int{3, 40, 1000} {
		want, _ := Sign(hash.Of(77), 2, leaf, hash.Of(6))
		got, _ := k.Sign(leaf, hash.Of(6))
		copied, _ := other.Sign(leaf, hash.Of(6))
		if !bytes.Equal(got, want) || !bytes.Equal(copied, want) {
			t.Errorf("P5.5: a key and its copy sign unlike by leaf %d", leaf)
		}
	}
}
