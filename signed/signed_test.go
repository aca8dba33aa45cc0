package signed

import (
	"bytes"
	"math"
	"math/rand"
	"slices"
	"testing"

	"forkledger/api"
	"forkledger/hash"
	"forkledger/manytime"
	"forkledger/vote"
)

// samples are votes that a leaf of a seed signs. The public keys, and the names of the 393 bytes of the encoded signed votes, come from a computation of the chapters outside of this program.
var samples = []struct {
	seed   uint64
	leaf   int
	vote   api.Vote
	public uint64
	text   uint64
}{
	{77, 0, api.Vote{Kind: api.Seal, Choice: api.Include, Signer: 4, Parent: hash.Of(1), Value: hash.Of(2)}, 0xe3b0722072275f1a, 0xe913e38bad39871c},
	{0, 1023, api.Vote{Kind: api.Prevote, Slot: 3, Round: 12, Choice: api.Include, Support: 0x3ff, Parent: hash.Of(5), Value: hash.Of(1 << 63)}, 0x7cb09b2a1dba64bb, 0x25576c7789037677},
	{1<<64 - 1, 517, api.Vote{Kind: api.Precommit, Slot: 1, Round: 7, Choice: api.Mixed, Signer: 2, Support: 0x207, Parent: hash.Of(1 << 63)}, 0xd5aaa0226a4469ca, 0x0ba818fb1516a026},
	{0x0123456789abcdef, 31, api.Vote{Kind: api.Propose, Slot: 9, Choice: api.Include, Signer: 9, Value: hash.Of(1)}, 0x8bdb0dd534362a9b, 0xbea09345167bf4e6},
	{0x0123456789abcdef, 32, api.Vote{Kind: api.Ack, Choice: api.Include, Parent: hash.Of(1<<64 - 1), Value: hash.Of(1<<64 - 1)}, 0x8bdb0dd534362a9b, 0x0039ec04fe249b30},
}

// seal returns a valid vote.
func seal(n int) api.Vote {
	return api.Vote{Kind: api.Seal, Choice: api.Include, Signer: n % 10, Parent: hash.Of(uint64(n)), Value: hash.Of(7)}
}

// notValid are votes that are not valid.
func notValid() []api.Vote {
	votes := []api.Vote{{}}
	for _, change := range []func(v *api.Vote){
		func(v *api.Vote) { v.Kind = 8 },
		func(v *api.Vote) { v.Kind += 256 },
		func(v *api.Vote) { v.Slot = 1 },
		func(v *api.Vote) { v.Round = 1 },
		func(v *api.Vote) { v.Choice = api.Exclude },
		func(v *api.Vote) { v.Signer = -1 },
		func(v *api.Vote) { v.Signer = 10 },
		func(v *api.Vote) { v.Support = 1 },
		func(v *api.Vote) { v.Support = 1 << 20 },
		func(v *api.Vote) { v.Value = api.Name{} },
	} {
		v := seal(1)
		change(&v)
		votes = append(votes, v)
	}
	return votes
}

// noLeaves are numbers of leaves that no validator's key has.
var noLeaves = []int{-1, -2, -1023, -1024, 1024, 1025, 2047, 2048, 1 << 16, 1<<16 + 1, 1 << 32, 1<<32 + 1, math.MinInt, math.MinInt + 1, math.MaxInt}

// same reports whether a and b are the same signed vote.
func same(a, b api.Signed) bool {
	return a.Vote == b.Vote && bytes.Equal(a.Sig, b.Sig)
}

// isZero reports whether s is the zero value.
func isZero(s api.Signed) bool {
	return s.Vote == api.Vote{} && len(s.Sig) == 0
}

// signedBySample returns sample i, signed.
func signedBySample(i int) api.Signed {
	s, _ := Sign(hash.Of(samples[i].seed), samples[i].leaf, samples[i].vote)
	return s
}

func TestSamples(t *testing.T) {
	for i, c := range samples {
		s, ok := Sign(hash.Of(c.seed), c.leaf, c.vote)
		if !ok || s.Vote != c.vote {
			t.Fatalf("P8.1: Sign of sample %d: %v, %v", i, s.Vote, ok)
		}
		if !Verify(hash.Of(c.public), s) {
			t.Errorf("P8.1, P8.4: sample %d is signed", i)
		}
		b, ok := Encode(s)
		if !ok || len(b) != 393 || hash.Sum(b) != hash.Of(c.text) {
			t.Errorf("P8.1, P8.2: sample %d is encoded as %x, %v", i, b, ok)
		}
		back, e := Decode(b)
		if e != api.OK || !same(back, s) {
			t.Errorf("P8.4: sample %d is decoded as %v, %d", i, back, e)
		}
	}
	if Len != 393 || Len != api.VoteLen+manytime.Size(2) {
		t.Errorf("P8.2: Len = %d", Len)
	}
}

func TestSignIsSignatureOfName(t *testing.T) {
	for i, c := range samples {
		want, _ := manytime.Sign(hash.Of(c.seed), 2, c.leaf, vote.Name(c.vote))
		if s := signedBySample(i); !bytes.Equal(s.Sig, want) {
			t.Errorf("P8.1: signature of sample %d: %x", i, s.Sig)
		}
		s, ok := SignWith(manytime.NewKey(hash.Of(c.seed), 2), c.leaf, c.vote)
		if !ok || s.Vote != c.vote || !bytes.Equal(s.Sig, want) {
			t.Errorf("P8.1: SignWith for sample %d: %v, %v", i, s, ok)
		}
	}
}

// TestEveryLeaf signs a vote with each leaf of a key.
func TestEveryLeaf(t *testing.T) {
	k := manytime.NewKey(hash.Of(8), 2)
	public := k.Public()
	for leaf := range 1024 {
		s, ok := SignWith(k, leaf, seal(leaf))
		want, _ := k.Sign(leaf, vote.Name(seal(leaf)))
		if !ok || s.Vote != seal(leaf) || !bytes.Equal(s.Sig, want) || !Verify(public, s) {
			t.Fatalf("P8.1, P8.4: SignWith by leaf %d: %v, %v", leaf, s, ok)
		}
	}
}

func TestSignRefusesLeaves(t *testing.T) {
	k := manytime.NewKey(hash.Of(8), 2)
	for _, leaf := range noLeaves {
		if s, ok := Sign(hash.Of(8), leaf, seal(1)); ok || !isZero(s) {
			t.Errorf("P8.1, R4: Sign by leaf %d: %v, %v", leaf, s, ok)
		}
		if s, ok := SignWith(k, leaf, seal(1)); ok || !isZero(s) {
			t.Errorf("P8.1, R4: SignWith by leaf %d: %v, %v", leaf, s, ok)
		}
	}
}

func TestSignRefusesVotes(t *testing.T) {
	k := manytime.NewKey(hash.Of(8), 2)
	for _, v := range notValid() {
		if s, ok := Sign(hash.Of(8), 3, v); ok || !isZero(s) {
			t.Errorf("P8.1, R4: Sign of %v: %v, %v", v, s, ok)
		}
		if s, ok := SignWith(k, 3, v); ok || !isZero(s) {
			t.Errorf("P8.1, R4: SignWith of %v: %v, %v", v, s, ok)
		}
	}
}

func TestSignWithRefusesKeys(t *testing.T) {
	for i, k := range []*manytime.Key{nil, {}, manytime.NewKey(hash.Of(8), 0), manytime.NewKey(hash.Of(8), 3)} {
		for _, leaf := range []int{0, 1, 31, 1023, -1} {
			if s, ok := SignWith(k, leaf, seal(1)); ok || !isZero(s) {
				t.Errorf("P8.1, R1, R4: SignWith of key %d, leaf %d: %v, %v", i, leaf, s, ok)
			}
		}
	}
}

// TestKeyOfOneLevel: SignWith takes any key that signs, but Verify takes the signatures of keys of two levels only.
func TestKeyOfOneLevel(t *testing.T) {
	k := manytime.NewKey(hash.Of(8), 1)
	s, ok := SignWith(k, 31, seal(1))
	want, _ := k.Sign(31, vote.Name(seal(1)))
	if !ok || s.Vote != seal(1) || !bytes.Equal(s.Sig, want) {
		t.Errorf("P8.1: SignWith by a key of one level: %v, %v", s, ok)
	}
	if Verify(k.Public(), s) || Verify(manytime.Public(hash.Of(8), 2), s) {
		t.Error("P8.1: Verify accepts a signature of one level")
	}
	if b, ok := Encode(s); ok || len(b) > 0 {
		t.Errorf("P8.2, R4: Encode of a signature of one level: %x, %v", b, ok)
	}
	if s, ok := SignWith(k, 32, seal(1)); ok || !isZero(s) {
		t.Errorf("P8.1, R4: SignWith by leaf 32 of a key of one level: %v, %v", s, ok)
	}
}

func TestVerifyRefusesOtherKeys(t *testing.T) {
	s := signedBySample(0)
	for _, c := range samples[1:] {
		if Verify(hash.Of(c.public), s) {
			t.Errorf("P8.1: Verify with the public key of seed %x", c.seed)
		}
	}
	for _, key := range []api.Name{{}, hash.Of(77), manytime.Public(hash.Of(77), 1), hash.Of(samples[0].public ^ 1), hash.Of(samples[0].public ^ 1<<63)} {
		if Verify(key, s) {
			t.Errorf("P8.1: Verify with key %x", key)
		}
	}
}

// TestVerifyRefusesOtherVotes changes each field of a vote, whether it stays valid or not.
func TestVerifyRefusesOtherVotes(t *testing.T) {
	for i, c := range samples {
		s := signedBySample(i)
		for f, change := range []func(v *api.Vote){
			func(v *api.Vote) { v.Kind++ },
			func(v *api.Vote) { v.Kind-- },
			func(v *api.Vote) { v.Slot++ },
			func(v *api.Vote) { v.Slot += 256 },
			func(v *api.Vote) { v.Round-- },
			func(v *api.Vote) { v.Choice-- },
			func(v *api.Vote) { v.Signer ^= 1 },
			func(v *api.Vote) { v.Support ^= 1 },
			func(v *api.Vote) { v.Support |= 1 << 16 },
			func(v *api.Vote) { v.Parent[0] ^= 1 },
			func(v *api.Vote) { v.Parent[7] ^= 1 },
			func(v *api.Vote) { v.Value[0] ^= 1 },
			func(v *api.Vote) { v.Value[7] ^= 1 },
			func(v *api.Vote) { *v = api.Vote{} },
		} {
			other := s
			change(&other.Vote)
			if Verify(hash.Of(c.public), other) {
				t.Errorf("P8.1: Verify of sample %d with the vote changed to %v (%d)", i, other.Vote, f)
			}
		}
	}
}

// TestVerifyRefusesOtherSignatures changes each byte of a signature, and its length.
func TestVerifyRefusesOtherSignatures(t *testing.T) {
	public := hash.Of(samples[0].public)
	s := signedBySample(0)
	for i := range s.Sig {
		other := api.Signed{Vote: s.Vote, Sig: bytes.Clone(s.Sig)}
		other.Sig[i] ^= 0x10
		if Verify(public, other) {
			t.Errorf("P8.1: Verify with byte %d of the signature changed", i)
		}
	}
	for n := range len(s.Sig) {
		if Verify(public, api.Signed{Vote: s.Vote, Sig: s.Sig[:n]}) || Verify(public, api.Signed{Vote: s.Vote, Sig: s.Sig[len(s.Sig)-n:]}) {
			t.Errorf("P8.1: Verify with %d bytes of the signature", n)
		}
	}
	for _, sig := range [][]byte{nil, {}, append(bytes.Clone(s.Sig), 0), append(bytes.Clone(s.Sig), s.Sig...), make([]byte, 370)} {
		if Verify(public, api.Signed{Vote: s.Vote, Sig: sig}) {
			t.Errorf("P8.1: Verify with signature %x", sig)
		}
	}
}

// TestVerifyRefusesInvalidVotes: the name of all votes that are not valid is zero, and a signature of it is none of such a vote.
func TestVerifyRefusesInvalidVotes(t *testing.T) {
	seed := hash.Of(8)
	sig, _ := manytime.Sign(seed, 2, 3, api.Name{})
	for _, v := range notValid() {
		if Verify(manytime.Public(seed, 2), api.Signed{Vote: v, Sig: sig}) {
			t.Errorf("P8.1: Verify of %v", v)
		}
	}
}

func TestEncodeIsVoteAndSignature(t *testing.T) {
	for i, c := range samples {
		s := signedBySample(i)
		v, _ := vote.Encode(c.vote)
		if b, ok := Encode(s); !ok || !bytes.Equal(b, append(v, s.Sig...)) {
			t.Errorf("P8.2: Encode of sample %d: %x, %v", i, b, ok)
		}
	}
}

// TestEncodeRefusesLengths: only the length of a signature matters.
func TestEncodeRefusesLengths(t *testing.T) {
	junk := bytes.Repeat([]byte{0xab}, 1000)
	for n := range len(junk) {
		b, ok := Encode(api.Signed{Vote: seal(1), Sig: junk[:n]})
		if ok != (n == 370) || !ok && len(b) > 0 || ok && len(b) != 393 {
			t.Errorf("P8.2, R4: Encode with %d bytes of signature: %x, %v", n, b, ok)
		}
	}
	if b, ok := Encode(api.Signed{Vote: seal(1)}); ok || len(b) > 0 {
		t.Errorf("P8.2, R3, R4: Encode without a signature: %x, %v", b, ok)
	}
}

func TestEncodeRefusesVotes(t *testing.T) {
	for _, v := range notValid() {
		for _, n := range []int{0, 369, 370, 371} {
			if b, ok := Encode(api.Signed{Vote: v, Sig: make([]byte, n)}); ok || len(b) > 0 {
				t.Errorf("P8.2, R4: Encode of %v with %d bytes of signature: %x, %v", v, n, b, ok)
			}
		}
	}
}

// TestDecodeLengths: a length that is wrong comes before a vote that is not valid.
func TestDecodeLengths(t *testing.T) {
	v, _ := vote.Encode(seal(1))
	text := append(v, bytes.Repeat([]byte{0xcd}, 2000)...)
	for n := range len(text) {
		want := api.OK
		switch {
		case n < 393:
			want = api.ErrShort
		case n > 393:
			want = api.ErrLong
		}
		if s, e := Decode(text[:n]); e != want || e != api.OK && !isZero(s) {
			t.Errorf("P8.2, R4: Decode of %d bytes: %v, %d", n, s, e)
		}
		if want == api.OK {
			want = api.ErrVote
		}
		if s, e := Decode(make([]byte, n)); e != want || !isZero(s) {
			t.Errorf("P8.2, R4, R5: Decode of %d zero bytes: %v, %d", n, s, e)
		}
	}
	if s, e := Decode(nil); e != api.ErrShort || !isZero(s) {
		t.Errorf("P8.2, R3: Decode(nil) = %v, %d", s, e)
	}
}

// TestDecodeOfEveryByte puts every byte at every position of the samples: the vote alone decides.
func TestDecodeOfEveryByte(t *testing.T) {
	for i := range samples {
		text, _ := Encode(signedBySample(i))
		for at := range text {
			for c := range 256 {
				b := bytes.Clone(text)
				b[at] = byte(c)
				checkDecode(t, b)
			}
		}
	}
}

// checkDecode checks Decode of Len bytes.
func checkDecode(t *testing.T, b []byte) {
	s, e := Decode(b)
	v, wanted := vote.Decode(b[:23])
	if wanted != api.OK {
		if e != api.ErrVote || !isZero(s) {
			t.Errorf("P8.2, R4: Decode(%x) = %v, %d, want ErrVote", b, s, e)
		}
		return
	}
	if e != api.OK || s.Vote != v || !bytes.Equal(s.Sig, b[23:]) {
		t.Errorf("P8.2: Decode(%x) = %v, %d", b, s, e)
	}
	if again, ok := Encode(s); !ok || !bytes.Equal(again, b) {
		t.Errorf("P8.4: Decode(%x) is encoded as %x, %v", b, again, ok)
	}
}

func TestSignAndCodeKeepMemoryApart(t *testing.T) {
	k := manytime.NewKey(hash.Of(77), 2)
	a, _ := SignWith(k, 0, samples[0].vote)
	b, _ := SignWith(k, 0, samples[0].vote)
	c := signedBySample(0)
	clear(a.Sig[:cap(a.Sig)])
	again, _ := SignWith(k, 0, samples[0].vote)
	if !same(b, c) || !same(again, c) {
		t.Error("P8.1, R2: signatures share memory")
	}
	text, _ := Encode(b)
	in := bytes.Clone(text)
	clear(text[:cap(text)])
	if !same(b, c) {
		t.Error("P8.2, R2: Encode shares memory with its argument")
	}
	back, _ := Decode(in)
	clear(in)
	if !same(back, c) {
		t.Error("P8.2, R2: Decode keeps its argument")
	}
	text, _ = Encode(b)
	in = bytes.Clone(text)
	back, _ = Decode(in)
	clear(back.Sig[:cap(back.Sig)])
	if !bytes.Equal(in, text) {
		t.Error("P8.2, R2: Decode shares memory with its argument")
	}
}

// TestEncodeReadsItsArgumentOnly: the bytes behind a signature stay as they are.
func TestEncodeReadsItsArgumentOnly(t *testing.T) {
	long := bytes.Repeat([]byte{1}, 400)
	Encode(api.Signed{Vote: seal(1), Sig: long[:370]})
	Verify(hash.Of(1), api.Signed{Vote: seal(1), Sig: long[:370]})
	Decode(long[:393])
	Less(api.Signed{Sig: long[:3]}, api.Signed{Sig: long[:4]})
	if !bytes.Equal(long, bytes.Repeat([]byte{1}, 400)) {
		t.Error("R2: bytes of an argument are changed")
	}
}

// ordered are signed votes in ascending order: several signatures of each vote, valid or not.
func ordered() []api.Signed {
	votes := []api.Vote{{Support: -1}, {}, {Support: 1 << 40}, {Kind: 1}, seal(0), seal(1)}
	other := seal(1)
	other.Value = hash.Of(8)
	votes = append(votes, other, seal(2), api.Vote{Parent: hash.Of(1 << 63)})
	var l []api.Signed
	for _, v := range votes {
		for _, sig := range []string{"", "\x00", "\x00\x00", "\x00\xff", "\x01", "a", "aa", "ab", "b", "\x7f", "\x80", "\xff", "\xff\x00"} {
			l = append(l, api.Signed{Vote: v, Sig: []byte(sig)})
		}
	}
	return l
}

// TestLess checks all pairs, and so that Less is a strict total order.
func TestLess(t *testing.T) {
	l := ordered()
	for i, a := range l {
		for j, b := range l {
			if got := Less(a, b); got != (i < j) {
				t.Errorf("P8.3: Less(%v, %v) = %v", a, b, got)
			}
		}
	}
	if Less(api.Signed{}, api.Signed{Sig: []byte{}}) || Less(api.Signed{Sig: []byte{}}, api.Signed{}) {
		t.Error("P8.3, R3: a nil signature and an empty one are equal")
	}
}

// sameLists reports whether a and b have the same elements in the same order.
func sameLists(a, b []api.Signed) bool {
	return slices.EqualFunc(a, b, same)
}

// leastOfEach returns what P8.3 says of Canonical, by a search for the next least element.
func leastOfEach(l []api.Signed) []api.Signed {
	var out []api.Signed
	for {
		var next *api.Signed
		for i := range l {
			behind := len(out) == 0 || vote.Less(out[len(out)-1].Vote, l[i].Vote)
			if behind && (next == nil || vote.Less(l[i].Vote, next.Vote) || l[i].Vote == next.Vote && bytes.Compare(l[i].Sig, next.Sig) < 0) {
				next = &l[i]
			}
		}
		if next == nil {
			return out
		}
		out = append(out, *next)
	}
}

// checkCanonical checks Canonical and Votes of l.
func checkCanonical(t *testing.T, l []api.Signed) {
	want := leastOfEach(l)
	got := Canonical(l)
	if !sameLists(got, want) {
		t.Fatalf("P8.3: Canonical(%v) = %v, want %v", l, got, want)
	}
	if again := Canonical(got); !sameLists(again, want) {
		t.Fatalf("P8.4: Canonical of Canonical(%v) = %v", l, again)
	}
	votes := Votes(l)
	if len(votes) != len(want) {
		t.Fatalf("P8.3: Votes(%v) = %v", l, votes)
	}
	for i, v := range votes {
		if v != want[i].Vote {
			t.Fatalf("P8.3: Votes(%v) = %v", l, votes)
		}
	}
}

func TestCanonicalOfNothing(t *testing.T) {
	for _, l := range [][]api.Signed{nil, {}} {
		if got, votes := Canonical(l), Votes(l); len(got) != 0 || len(votes) != 0 {
			t.Errorf("P8.3, R3: Canonical and Votes of nothing: %v, %v", got, votes)
		}
	}
	if got := Canonical(make([]api.Signed, 1)); len(got) != 1 || !isZero(got[0]) {
		t.Errorf("P8.3: Canonical of the zero value: %v", got)
	}
}

// TestCanonicalOfLists takes lists in ascending, descending and random order, with elements that occur more than once.
func TestCanonicalOfLists(t *testing.T) {
	l := ordered()
	checkCanonical(t, l)
	slices.Reverse(l)
	checkCanonical(t, l)
	r := rand.New(rand.NewSource(8))
	for range 300 {
		var some []api.Signed
		for range r.Intn(40) {
			some = append(some, l[r.Intn(len(l))])
		}
		checkCanonical(t, some)
	}
}

// TestCanonicalOfPermutations takes all orders of a list.
func TestCanonicalOfPermutations(t *testing.T) {
	l := []api.Signed{{Vote: seal(1), Sig: []byte("b")}, {Vote: seal(2), Sig: []byte("a")}, {Vote: seal(1), Sig: []byte("ab")}, {Vote: seal(3)}, {Vote: seal(1), Sig: []byte("ab")}, {Vote: seal(2), Sig: []byte("ax")}}
	want := []api.Signed{l[2], l[1], l[3]}
	var permute func(n int)
	permute = func(n int) {
		if n == 0 {
			if got := Canonical(l); !sameLists(got, want) {
				t.Fatalf("P8.3, P8.4: Canonical(%v) = %v", l, got)
			}
			return
		}
		for i := range n {
			l[i], l[n-1] = l[n-1], l[i]
			permute(n - 1)
			l[i], l[n-1] = l[n-1], l[i]
		}
	}
	permute(len(l))
}

// TestCanonicalOfMany takes a list that is too long for a sort by insertion.
func TestCanonicalOfMany(t *testing.T) {
	r := rand.New(rand.NewSource(9))
	var l []api.Signed
	for i := range 20000 {
		l = append(l, api.Signed{Vote: seal(i / 2), Sig: []byte{byte(i)}})
	}
	r.Shuffle(len(l), func(i, j int) { l[i], l[j] = l[j], l[i] })
	got := Canonical(l)
	if len(got) != 10000 {
		t.Fatalf("P8.3: Canonical has %d elements", len(got))
	}
	for i, s := range got {
		if s.Vote != seal(i) || !bytes.Equal(s.Sig, []byte{byte(2 * i)}) {
			t.Fatalf("P8.3: element %d of Canonical is %v", i, s)
		}
	}
}

// TestCanonicalKeepsItsArgument: the elements of the list, those behind its end and the signatures stay as they are.
func TestCanonicalKeepsItsArgument(t *testing.T) {
	l := ordered()
	slices.Reverse(l)
	l = append(l, l...)
	Canonical(l[:100])
	Votes(l[:100])
	want := ordered()
	slices.Reverse(want)
	if !sameLists(l, append(want, want...)) {
		t.Error("P8.3, R2: Canonical or Votes changes its argument")
	}
}

// TestCanonicalSharesNoMemory: neither with the list nor between the elements, even if those of the list share a signature.
func TestCanonicalSharesNoMemory(t *testing.T) {
	sig := []byte("abcdef")
	l := []api.Signed{{Vote: seal(2), Sig: sig}, {Vote: seal(1), Sig: sig[:3]}, {Vote: seal(3), Sig: sig[:2]}}
	got := Canonical(l)
	for i, s := range got {
		clear(s.Sig[:cap(s.Sig)])
		if string(sig) != "abcdef" {
			t.Fatalf("P8.3, R2: element %d shares memory with the list", i)
		}
		for _, later := range got[i+1:] {
			if !bytes.HasPrefix(sig, later.Sig) {
				t.Fatalf("P8.3, R2: element %d shares memory with %v", i, later)
			}
		}
	}
	clear(got[:cap(got)])
	want := []api.Signed{{Vote: seal(2), Sig: sig}, {Vote: seal(1), Sig: sig[:3]}, {Vote: seal(3), Sig: sig[:2]}}
	if !sameLists(l, want) {
		t.Error("P8.3, R2: Canonical returns the memory of its argument")
	}
	got = Canonical(l)
	clear(sig)
	if string(got[0].Sig) != "abc" || string(got[1].Sig) != "abcdef" || string(got[2].Sig) != "ab" {
		t.Errorf("P8.3, R2: Canonical keeps signatures of its argument: %v", got)
	}
}
