package onetime

import (
	"math/rand"
	"slices"
	"testing"

	"forkledger/api"
	"forkledger/hash"
)

// names are names with few, many, equal and unlike half bytes.
var names = []uint64{
	0, 1, 0xf, 0x10, 0xf0, 0xff, 0x8000000000000000, 0xf000000000000000, 0x0f00000000000000,
	1<<64 - 1, 1<<64 - 2, 0xfffffffffffffff0, 0x0fffffffffffffff, 0x7777777777777777, 0x8888888888888888,
	0x0123456789abcdef, 0xfedcba9876543210, 0xa0b1c2d3e4f50617,
}

// ofNumbers returns the names with the given numbers.
func ofNumbers(numbers []uint64) []api.Name {
	l := make([]api.Name, len(numbers))
	for j, v := range numbers {
		l[j] = hash.Of(v)
	}
	return l
}

// unlike returns n names, no two of them equal.
func unlike(n int) []api.Name {
	l := make([]api.Name, n)
	for j := range l {
		l[j] = hash.Of(uint64(j*j*257 + j + 3))
	}
	return l
}

// digitsByNumber computes digits in another way than the chapter describes them: from the number of m.
func digitsByNumber(m api.Name) []int {
	l := make([]int, 18)
	sum := 0
	for j := range 16 {
		l[j] = int(hash.Number(m) << (4 * j) >> 60)
		sum += l[j]
	}
	l[16], l[17] = (240-sum)>>4, (240-sum)&15
	return l
}

// next returns the value after the one at position p of chain c.
func next(v api.Name, c, p int) api.Name {
	return hash.Tagged(0x21, []byte{v[0], v[1], v[2], v[3], v[4], v[5], v[6], v[7], byte(c), byte(p)})
}

// values returns all values of chain c.
func values(seed api.Name, c int) []api.Name {
	v := hash.Tagged(0x20, []byte{seed[0], seed[1], seed[2], seed[3], seed[4], seed[5], seed[6], seed[7], byte(c)})
	l := []api.Name{v}
	for p := 0; p < 15; p++ {
		v = next(v, c, p)
		l = append(l, v)
	}
	return l
}

// table returns all values of all chains of the key of seed.
func table(seed api.Name) [][]api.Name {
	var l [][]api.Name
	for c := 0; c < 18; c++ {
		l = append(l, values(seed, c))
	}
	return l
}

// joined returns the hash of 18 last values.
func joined(ends []api.Name) api.Name {
	var text []byte
	for _, x := range ends {
		text = append(text, x[:]...)
	}
	return hash.Tagged(0x22, text)
}

// recovered computes what Recover has to return for 18 names.
func recovered(m api.Name, sig []api.Name) api.Name {
	var ends []api.Name
	for c, d := range digitsByNumber(m) {
		v := sig[c]
		for p := d; p < 15; p++ {
			v = next(v, c, p)
		}
		ends = append(ends, v)
	}
	return joined(ends)
}

// The numbers of this table come from a computation of the chapter outside of this program.
func TestDigits(t *testing.T) {
	for _, c := range []struct {
		m    uint64
		want []int
	}{
		{0, []int{0, 0, 0, 0, 0, 0, 0, 0, 0, 0, 0, 0, 0, 0, 0, 0, 15, 0}},
		{1<<64 - 1, []int{15, 15, 15, 15, 15, 15, 15, 15, 15, 15, 15, 15, 15, 15, 15, 15, 0, 0}},
		{0x0123456789abcdef, []int{0, 1, 2, 3, 4, 5, 6, 7, 8, 9, 10, 11, 12, 13, 14, 15, 7, 8}},
		{0xa0b1c2d3e4f50617, []int{10, 0, 11, 1, 12, 2, 13, 3, 14, 4, 15, 5, 0, 6, 1, 7, 8, 8}},
		{0xffffffffffffff00, []int{15, 15, 15, 15, 15, 15, 15, 15, 15, 15, 15, 15, 15, 15, 0, 0, 1, 14}},
		{0x8000000000000001, []int{8, 0, 0, 0, 0, 0, 0, 0, 0, 0, 0, 0, 0, 0, 0, 1, 14, 7}},
	} {
		if got := Digits(hash.Of(c.m)); !slices.Equal(got, c.want) {
			t.Errorf("P4.1: Digits(%016x) = %v, want %v", c.m, got, c.want)
		}
	}
}

// TestDigitsOfEachHalfByte sets one half byte of a name to each value.
func TestDigitsOfEachHalfByte(t *testing.T) {
	for _, around := range names {
		for j := range 16 {
			for v := range uint64(16) {
				m := hash.Of(around&^(15<<(4*j)) | v<<(4*j))
				if got, want := Digits(m), digitsByNumber(m); !slices.Equal(got, want) {
					t.Errorf("P4.1: Digits(%x) = %v, want %v", m, got, want)
				}
			}
		}
	}
}

func TestDigitsAreInRange(t *testing.T) {
	r := rand.New(rand.NewSource(1))
	for range 2000 {
		m := hash.Of(r.Uint64())
		got := Digits(m)
		if len(got) != 18 || slices.Min(got) < 0 || slices.Max(got) > 15 || !slices.Equal(got, digitsByNumber(m)) {
			t.Fatalf("P4.1: Digits(%x) = %v", m, got)
		}
	}
}

// The numbers of this table come from a computation of the chapter outside of this program.
func TestPublicValues(t *testing.T) {
	for _, c := range []struct{ seed, want uint64 }{
		{0, 0xb11bf6b06056f6f5},
		{1, 0x7621f7e97ffd4829},
		{77, 0x05ca2217666aabc8},
		{0x0123456789abcdef, 0x68841048a86a1488},
		{1<<64 - 1, 0x752b36f410c6b35d},
	} {
		if got := Public(hash.Of(c.seed)); got != hash.Of(c.want) {
			t.Errorf("P4.2: Public(%x) = %x, want %x", c.seed, got, c.want)
		}
	}
}

// The numbers of this table come from a computation of the chapter outside of this program.
func TestSignValues(t *testing.T) {
	for _, c := range []struct {
		seed, m uint64
		want    []uint64
	}{
		{0, 0, []uint64{
			0xacafb6a320f07216, 0x29588fb9f735bb38, 0xa90984043eb4f8ae, 0x5b48a85011955e36, 0xbbbc9a1b337ed844, 0xe8023ec98114b4dc,
			0x59f9fdf626b48d09, 0xe9f2754fde6a78a9, 0x2b0f71bf13cacbfb, 0xa0920a40c4f76b85, 0xf3c03925586311b3, 0x791579b8ed634b60,
			0x7187b56387ddd68d, 0x9bf586a217eab8e9, 0xbe34af1e73e84f06, 0xbd0ca47477c9dbea, 0xfe8cb75dbe339888, 0xa6df3754e8a25503}},
		{77, 1<<64 - 1, []uint64{
			0xde65977db8ce40b8, 0x1d43b42c7c8f613c, 0x885b8f7130831711, 0x939c5757ab71451c, 0x92ce8721e33a7ccc, 0x487c639e47c54df1,
			0x9749cdc25fed7a86, 0x9279dd509fd62058, 0x9d60aad2ea7d908e, 0xb465201dd3667f26, 0x236edfc0b373291a, 0xef6084ddabf0ce0c,
			0xc0ebbd8cd513ccb3, 0x5f19ebf91a1ce207, 0xd75c9a6cb76fc3c1, 0x395530d502dc022d, 0x5b46c6b852bbaea5, 0x12ff50ccf0579d53}},
		{77, 0x0123456789abcdef, []uint64{
			0xf501a72845d52582, 0x6f55f228ca173ad8, 0xf0bc4e320e6de52a, 0x61490c702c8467e7, 0xf4089127e65c2145, 0x2f72eb89603a5a56,
			0xb80ee754914c656b, 0x6afaab5a1b7eb4ab, 0x7f07d299c04465cb, 0x9ce1895de9fde3cc, 0x5006cdf52bb65cdf, 0x0d45b8a999cce28a,
			0x1b84ff7f4ac61186, 0x722f34e5c403cc84, 0xab6746d4bf2e4f38, 0x395530d502dc022d, 0x95a9db292437dc7c, 0xca7706127cb08e53}},
		{1<<64 - 1, 0xfedcba9876543210, []uint64{
			0xba10b1cbd0824a1f, 0xbbca79e94c0f0b35, 0x00b22a081e2904cd, 0xfda786ab9d762f6c, 0xe83d8c0f84c5fa3c, 0x5ac2a594f19704fa,
			0x23824b593881e771, 0xfcbcd3f9b88e0530, 0x91a30e874ebc3a63, 0x71ee40dc046079b8, 0x757b739ffdf338d4, 0xbd5f73752bf1dee6,
			0xa90ba0975c579831, 0xb6ceb2cdd0b4ae64, 0xc49859bced53e976, 0xf3622be5a748cdde, 0x57ce3a663e6a6708, 0xb56bf3a493fddb41}},
	} {
		if got := Sign(hash.Of(c.seed), hash.Of(c.m)); !slices.Equal(got, ofNumbers(c.want)) {
			t.Errorf("P4.2: Sign(%x, %016x) = %x", c.seed, c.m, got)
		}
	}
}

func TestPublicAndSignOfChains(t *testing.T) {
	for _, s := range names {
		seed := hash.Of(s)
		l := table(seed)
		var ends []api.Name
		for c := range l {
			ends = append(ends, l[c][15])
		}
		if got, want := Public(seed), joined(ends); got != want {
			t.Errorf("P4.2: Public(%x) = %x, want %x", seed, got, want)
		}
		for _, v := range names {
			got := Sign(seed, hash.Of(v))
			if len(got) != 18 {
				t.Fatalf("P4.2: Sign(%x, %016x) has %d names", seed, v, len(got))
			}
			for c, d := range digitsByNumber(hash.Of(v)) {
				if got[c] != l[c][d] {
					t.Errorf("P4.2: Sign(%x, %016x) has %x for chain %d, want %x", seed, v, got[c], c, l[c][d])
				}
			}
		}
	}
}

// TestChainsDiffer checks that no value serves in two chains or at two positions, whether the seeds are equal or not.
func TestChainsDiffer(t *testing.T) {
	found := map[api.Name]bool{}
	for _, s := range names {
		for v := range uint64(16) {
			sig := Sign(hash.Of(s), hash.Of(0x1111111111111111*v))
			for _, x := range sig[:16] {
				if found[x] {
					t.Errorf("P4.2: a value of seed %x occurs twice", s)
				}
				found[x] = true
			}
		}
	}
	keys := map[api.Name]bool{}
	for s := range uint64(500) {
		keys[Public(hash.Of(s))] = true
		keys[Public(hash.Of(s<<50+1<<40))] = true
	}
	if len(keys) != 1000 {
		t.Errorf("P4.2: 1000 seeds have %d public keys", len(keys))
	}
}

// The numbers of this table come from a computation of the chapter outside of this program.
func TestRecoverValues(t *testing.T) {
	for _, c := range []struct{ m, ofZero, ofUnlike uint64 }{
		{0, 0xd7100c1344bdf1ef, 0xa5caf9f59c046d36},
		{1<<64 - 1, 0x01d8723e4e325645, 0xd6940561b145169c},
		{0x0123456789abcdef, 0x05cd5e6fef1aac3a, 0x2e8e583429877b34},
		{0xa0b1c2d3e4f50617, 0x533946601bf9613d, 0x3f82bf9806f4718e},
	} {
		if got, ok := Recover(hash.Of(c.m), make([]api.Name, 18)); !ok || got != hash.Of(c.ofZero) {
			t.Errorf("P4.3: Recover(%016x) of zero names: %x, %v, want %x", c.m, got, ok, c.ofZero)
		}
		if got, ok := Recover(hash.Of(c.m), unlike(18)); !ok || got != hash.Of(c.ofUnlike) {
			t.Errorf("P4.3: Recover(%016x) of unlike names: %x, %v, want %x", c.m, got, ok, c.ofUnlike)
		}
	}
}

func TestRecoverOfAnyNames(t *testing.T) {
	for _, v := range names {
		m := hash.Of(v)
		for _, sig := range [][]api.Name{unlike(18), make([]api.Name, 18), Sign(hash.Of(5), hash.Of(6)), ofNumbers(names)} {
			if got, ok := Recover(m, sig); !ok || got != recovered(m, sig) {
				t.Errorf("P4.3: Recover(%x, %x) = %x, %v, want %x", m, sig, got, ok, recovered(m, sig))
			}
		}
	}
}

func TestRecoverRefusesLengths(t *testing.T) {
	for _, v := range names {
		for n := range 60 {
			got, ok := Recover(hash.Of(v), unlike(n))
			if ok != (n == 18) || !ok && got != (api.Name{}) {
				t.Errorf("P4.3, R4: Recover(%016x) of %d names: %x, %v", v, n, got, ok)
			}
		}
		if got, ok := Recover(hash.Of(v), nil); ok || got != (api.Name{}) {
			t.Errorf("P4.3, R3, R4: Recover(%016x, nil) = %x, %v", v, got, ok)
		}
	}
	sig := Sign(hash.Of(5), hash.Of(6))
	if got, ok := Recover(hash.Of(6), append(sig, api.Name{})); ok || got != (api.Name{}) {
		t.Errorf("P4.3, R4: Recover of a signature and a name: %x, %v", got, ok)
	}
}

// TestRecoverOfChangedSignatures changes one bit of a signature.
func TestRecoverOfChangedSignatures(t *testing.T) {
	for _, v := range []uint64{0, 1<<64 - 1, 0x0123456789abcdef} {
		sig := Sign(hash.Of(77), hash.Of(v))
		for c := range sig {
			for bit := range 64 {
				changed := slices.Clone(sig)
				changed[c][bit/8] ^= 1 << (bit % 8)
				if got, ok := Recover(hash.Of(v), changed); !ok || got == Public(hash.Of(77)) {
					t.Errorf("P4.3: bit %d of chain %d is not checked: %x, %v", bit, c, got, ok)
				}
			}
		}
		for c := range 17 {
			changed := slices.Clone(sig)
			changed[c], changed[c+1] = sig[c+1], sig[c]
			if got, _ := Recover(hash.Of(v), changed); got == Public(hash.Of(77)) {
				t.Errorf("P4.3: the chains %d and %d are not told apart", c, c+1)
			}
		}
	}
}

func TestSignaturesAreRecovered(t *testing.T) {
	for _, s := range names {
		for _, v := range names {
			sig := Sign(hash.Of(s), hash.Of(v))
			for _, w := range names {
				got, ok := Recover(hash.Of(w), sig)
				if !ok || (got == Public(hash.Of(s))) != (v == w) {
					t.Errorf("P4.4: the signature of %016x by %016x recovers %x for %016x, %v", v, s, got, w, ok)
				}
			}
		}
	}
}

// twoWays reports whether some digit of a is less than that of b and some other one is greater.
func twoWays(a, b api.Name) bool {
	less, greater := false, false
	x, y := Digits(a), Digits(b)
	for c := range x {
		less, greater = less || x[c] < y[c], greater || x[c] > y[c]
	}
	return less && greater
}

func TestDigitsCrossEachOther(t *testing.T) {
	for _, v := range names {
		for j := range 16 { // the names that differ from v in one half byte
			for x := range uint64(15) {
				w := v ^ (x+1)<<(4*j)
				if !twoWays(hash.Of(v), hash.Of(w)) {
					t.Errorf("P4.4: digits of %016x: %v, of %016x: %v", v, Digits(hash.Of(v)), w, Digits(hash.Of(w)))
				}
			}
		}
	}
	r := rand.New(rand.NewSource(2))
	for range 3000 {
		v, w := r.Uint64(), r.Uint64()
		switch r.Intn(3) {
		case 0:
			w = v | w // no half byte is less
		case 1:
			w = v&^(255<<8) | w&(255<<8)
		}
		if v != w && (!twoWays(hash.Of(v), hash.Of(w)) || !twoWays(hash.Of(w), hash.Of(v))) {
			t.Errorf("P4.4: digits of %016x: %v, of %016x: %v", v, Digits(hash.Of(v)), w, Digits(hash.Of(w)))
		}
	}
}

// TestSignaturesLackValues follows the chains of a signature on: what the signature of another name needs is not among these values, so the other signature cannot be made from the first one.
func TestSignaturesLackValues(t *testing.T) {
	seed := hash.Of(77)
	for _, v := range names {
		known := map[api.Name]bool{}
		for c, x := range Sign(seed, hash.Of(v)) {
			for p := Digits(hash.Of(v))[c]; p < 15; p++ {
				known[x] = true
				x = next(x, c, p)
			}
			known[x] = true
		}
		for _, w := range names {
			lacks := false
			for _, x := range Sign(seed, hash.Of(w)) {
				lacks = lacks || !known[x]
			}
			if lacks != (v != w) {
				t.Errorf("P4.4: the signature of %016x can be made from that of %016x: %v", w, v, !lacks)
			}
		}
	}
}

func TestResultsAreNewMemory(t *testing.T) {
	seed, m := hash.Of(77), hash.Of(0x0123456789abcdef)
	digits, sig := Digits(m), Sign(seed, m)
	keptDigits, keptSig := slices.Clone(digits), slices.Clone(sig)
	for range 3 {
		l, s := Digits(m), Sign(seed, m)
		clear(l[:cap(l)])
		clear(s[:cap(s)])
	}
	if !slices.Equal(digits, keptDigits) || !slices.Equal(sig, keptSig) {
		t.Error("R2: a result changes with a later one")
	}
	if !slices.Equal(Digits(m), keptDigits) || !slices.Equal(Sign(seed, m), keptSig) {
		t.Error("R2, R6: a call depends on the result of an earlier one")
	}
	if got, ok := Recover(m, keptSig); !ok || got != Public(seed) {
		t.Error("R2, R6: Recover depends on the result of an earlier call")
	}
}

// TestArgumentsAreKept gives Recover lists within a longer one.
func TestArgumentsAreKept(t *testing.T) {
	room := unlike(60)
	for n := range 40 {
		got, ok := Recover(hash.Of(9), room[:n])
		if n == 18 && (!ok || got != recovered(hash.Of(9), room[:18:18])) || n != 18 && (ok || got != api.Name{}) {
			t.Errorf("P4.3, R2: Recover depends on names behind %d of them: %x, %v", n, got, ok)
		}
		if !slices.Equal(room, unlike(60)) {
			t.Fatalf("R2: Recover changes its argument of %d names", n)
		}
	}
}
