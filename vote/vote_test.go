package vote

import (
	"bytes"
	"math"
	"slices"
	"testing"

	"forkledger/api"
	"forkledger/hash"
)

// samples are valid votes of each kind with their encodings and names. The encodings and names come from a computation of the chapters outside of this program.
var samples = []struct {
	vote     api.Vote
	encoding string
	name     uint64
}{
	{
		api.Vote{Kind: api.Propose, Slot: 9, Choice: api.Include, Signer: 3, Parent: hash.Of(0x0102030405060708), Value: hash.Of(0x1112131415161718)},
		"\x01\x09\x00\x01\x03\x00\x00\x01\x02\x03\x04\x05\x06\x07\x08\x11\x12\x13\x14\x15\x16\x17\x18", 0xcaf0db5a736d6fe1,
	},
	{
		api.Vote{Kind: api.Echo, Choice: api.Include, Signer: 9, Value: hash.Of(1)},
		"\x02\x00\x00\x01\x09\x00\x00\x00\x00\x00\x00\x00\x00\x00\x00\x00\x00\x00\x00\x00\x00\x00\x01", 0x61c34a2593cd6cf1,
	},
	{
		api.Vote{Kind: api.Prevote, Slot: 2, Round: 1, Choice: api.Exclude, Signer: 4, Parent: hash.Of(0xfffefdfcfbfaf9f8)},
		"\x03\x02\x01\x00\x04\x00\x00\xff\xfe\xfd\xfc\xfb\xfa\xf9\xf8\x00\x00\x00\x00\x00\x00\x00\x00", 0x0752edd99d8daec2,
	},
	{
		api.Vote{Kind: api.Prevote, Slot: 3, Round: 12, Choice: api.Include, Support: 0x3ff, Parent: hash.Of(5), Value: hash.Of(1 << 63)},
		"\x03\x03\x0c\x01\x00\x03\xff\x00\x00\x00\x00\x00\x00\x00\x05\x80\x00\x00\x00\x00\x00\x00\x00", 0xb4ae541f41404ea5,
	},
	{
		api.Vote{Kind: api.Precommit, Slot: 1, Round: 7, Choice: api.Mixed, Signer: 2, Support: 0x207, Parent: hash.Of(1 << 63)},
		"\x04\x01\x07\x02\x02\x02\x07\x80\x00\x00\x00\x00\x00\x00\x00\x00\x00\x00\x00\x00\x00\x00\x00", 0x351e0756277a63fb,
	},
	{
		api.Vote{Kind: api.Precommit, Slot: 5, Round: 1, Choice: api.Exclude, Signer: 6, Parent: hash.Of(1)},
		"\x04\x05\x01\x00\x06\x00\x00\x00\x00\x00\x00\x00\x00\x00\x01\x00\x00\x00\x00\x00\x00\x00\x00", 0x1e7d5452f8846e31,
	},
	{
		api.Vote{Kind: api.Seal, Choice: api.Include, Signer: 5, Parent: hash.Of(0xaabbccddeeff0011), Value: hash.Of(0x00ff00ff00ff00ff)},
		"\x05\x00\x00\x01\x05\x00\x00\xaa\xbb\xcc\xdd\xee\xff\x00\x11\x00\xff\x00\xff\x00\xff\x00\xff", 0xf862e075e0447e8e,
	},
	{
		api.Vote{Kind: api.Join, Choice: api.Include, Signer: 7, Parent: hash.Of(2), Value: hash.Of(3)},
		"\x06\x00\x00\x01\x07\x00\x00\x00\x00\x00\x00\x00\x00\x00\x02\x00\x00\x00\x00\x00\x00\x00\x03", 0x2bad5f728739e8b0,
	},
	{
		api.Vote{Kind: api.Ack, Choice: api.Include, Signer: 8, Parent: hash.Of(math.MaxUint64), Value: hash.Of(math.MaxUint64)},
		"\x07\x00\x00\x01\x08\x00\x00\xff\xff\xff\xff\xff\xff\xff\xff\xff\xff\xff\xff\xff\xff\xff\xff", 0x61226c32510789ad,
	},
}

// rule is what P7.1 says of the votes of one kind.
type rule struct {
	lastSlot, firstRound, lastRound int
	choices                         []int
	supported                       bool
}

// rules are indexed by kind.
var rules = []rule{
	{},
	{9, 0, 0, []int{1}, false},
	{9, 0, 0, []int{1}, false},
	{9, 1, 12, []int{0, 1}, true},
	{9, 1, 12, []int{0, 1, 2}, true},
	{0, 0, 0, []int{1}, false},
	{0, 0, 0, []int{1}, false},
	{0, 0, 0, []int{1}, false},
}

// obeys reports whether v is valid by the rules.
func obeys(v api.Vote) bool {
	if v.Kind < 1 || v.Kind > 7 || v.Signer < 0 || v.Signer > 9 {
		return false
	}
	r := rules[v.Kind]
	if v.Slot < 0 || v.Slot > r.lastSlot || v.Round < r.firstRound || v.Round > r.lastRound || !slices.Contains(r.choices, v.Choice) {
		return false
	}
	if hash.Number(v.Value) == 0 && v.Choice == 1 || hash.Number(v.Value) != 0 && v.Choice != 1 {
		return false
	}
	most := api.Mask(1023)
	if !r.supported || v.Kind == 3 && v.Round == 1 && v.Choice == 0 {
		most = 0
	}
	return 0 <= v.Support && v.Support <= most
}

// fields return the numbers of a vote but for its Support.
var fields = []func(v *api.Vote) *int{
	func(v *api.Vote) *int { return &v.Kind },
	func(v *api.Vote) *int { return &v.Slot },
	func(v *api.Vote) *int { return &v.Round },
	func(v *api.Vote) *int { return &v.Choice },
	func(v *api.Vote) *int { return &v.Signer },
}

// extremes are numbers that no field may have. Some have lowest bytes that a field may have.
var extremes = []int{-1, -2, -255, -256, -1024, 13, 255, 256, 257, 258, 259, 260, 1024, 1025, 65536, 65537, 1 << 32, 1<<32 + 1, math.MaxInt, math.MaxInt - 1, math.MinInt, math.MinInt + 1, math.MinInt + 3}

// grid calls f with the votes that have all combinations of some kinds, slots, rounds, choices, signers, supports and values.
func grid(f func(v api.Vote)) {
	for kind := -1; kind < 10; kind++ {
		for _, slot := range []int{-1, 0, 1, 9, 10} {
			for _, round := range []int{-1, 0, 1, 2, 12, 13} {
				for choice := -1; choice < 4; choice++ {
					for _, signer := range []int{-1, 0, 9, 10} {
						for _, support := range []api.Mask{0, 1, 1 << 9, 1<<10 - 1, 1 << 10, -1} {
							for value := range uint64(2) {
								f(api.Vote{Kind: kind, Slot: slot, Round: round, Choice: choice, Signer: signer, Support: support, Value: hash.Of(value)})
							}
						}
					}
				}
			}
		}
	}
}

func TestSamplesAreValid(t *testing.T) {
	for i, s := range samples {
		if !Valid(s.vote) {
			t.Errorf("P7.1: sample %d is valid: %v", i, s.vote)
		}
	}
}

// TestGrid compares Valid with the rules. The number of valid votes comes from a computation outside of this program.
func TestGrid(t *testing.T) {
	valid := 0
	grid(func(v api.Vote) {
		got := Valid(v)
		if got != obeys(v) {
			t.Errorf("P7.1: Valid(%v) = %v", v, got)
		}
		if got {
			valid++
		}
	})
	if valid != 360 {
		t.Errorf("P7.1: %d votes of the grid are valid, want 360", valid)
	}
}

// TestEveryRange varies one field of each sample over all numbers that are near to its range.
func TestEveryRange(t *testing.T) {
	check := func(v api.Vote) {
		if got := Valid(v); got != obeys(v) {
			t.Errorf("P7.1: Valid(%v) = %v", v, got)
		}
	}
	for _, s := range samples {
		for x := -20; x < 300; x++ {
			for _, f := range fields {
				v := s.vote
				*f(&v) = x
				check(v)
			}
		}
		for m := api.Mask(-1100); m < 2200; m++ {
			v := s.vote
			v.Support = m
			check(v)
		}
	}
}

func TestExtremesAreNotValid(t *testing.T) {
	for i, s := range samples {
		for _, x := range extremes {
			for j, f := range fields {
				v := s.vote
				*f(&v) = x
				if Valid(v) {
					t.Errorf("P7.1: sample %d with %d in field %d is valid", i, x, j)
				}
			}
		}
		for _, bit := range []int{10, 11, 15, 16, 31, 32, 62, 63} {
			v := s.vote
			v.Support |= 1 << bit
			if Valid(v) {
				t.Errorf("P7.1: sample %d with bit %d of Support is valid", i, bit)
			}
		}
	}
}

// TestValueOfOneByte finds out whether each byte of Value distinguishes it from the zero name.
func TestValueOfOneByte(t *testing.T) {
	for i := range api.NameLen {
		var value api.Name
		value[i] = 1
		for _, c := range []struct {
			choice int
			want   bool
		}{{api.Exclude, false}, {api.Include, true}, {api.Mixed, false}} {
			if v := (api.Vote{Kind: api.Precommit, Round: 1, Choice: c.choice, Value: value}); Valid(v) != c.want {
				t.Errorf("P7.1: Valid(%v) = %v", v, !c.want)
			}
		}
	}
}

func TestParentMayBeAnything(t *testing.T) {
	for i, s := range samples {
		for _, parent := range []api.Name{{}, hash.Of(1), s.vote.Value, hash.Of(math.MaxUint64)} {
			v := s.vote
			v.Parent = parent
			if !Valid(v) {
				t.Errorf("P7.1: sample %d with Parent %x is valid", i, parent)
			}
		}
	}
}

func TestEncodingOfSamples(t *testing.T) {
	for i, s := range samples {
		if b, ok := Encode(s.vote); !ok || string(b) != s.encoding {
			t.Errorf("P7.2: Encode of sample %d: %x, %v, want %x", i, b, ok, s.encoding)
		}
		if v, e := Decode([]byte(s.encoding)); e != api.OK || v != s.vote {
			t.Errorf("P7.2: Decode of sample %d: %v, %d, want %v", i, v, e, s.vote)
		}
		if got := hash.Number(Name(s.vote)); got != s.name {
			t.Errorf("P7.3: Name of sample %d: %#x, want %#x", i, got, s.name)
		}
	}
}

// TestEncodingOfGrid checks the encodings of valid votes and that the other votes have none.
func TestEncodingOfGrid(t *testing.T) {
	grid(func(v api.Vote) {
		b, ok := Encode(v)
		name := Name(v)
		if !obeys(v) {
			if ok || len(b) != 0 || name != (api.Name{}) {
				t.Errorf("P7.2, P7.3, R4: %v is not valid: Encode = %x, %v, Name = %x", v, b, ok, name)
			}
			return
		}
		if !ok || len(b) != api.VoteLen || name != hash.Tagged(0x40, b) {
			t.Errorf("P7.2, P7.3: %v is valid: Encode = %x, %v, Name = %x", v, b, ok, name)
		}
		if back, e := Decode(b); e != api.OK || back != v {
			t.Errorf("P7.6: %v is decoded as %v, %d", v, back, e)
		}
	})
}

func TestNoEncodingOfExtremes(t *testing.T) {
	for i, s := range samples {
		for _, x := range extremes {
			for _, f := range append(fields, func(v *api.Vote) *int { return (*int)(&v.Support) }) {
				v := s.vote
				*f(&v) = x
				if obeys(v) {
					continue // 13, 255 and the like are sets of validators
				}
				if b, ok := Encode(v); ok || len(b) != 0 || Name(v) != (api.Name{}) {
					t.Errorf("P7.2, P7.3, R4: sample %d as %v: Encode = %x, %v, Name = %x", i, v, b, ok, Name(v))
				}
			}
		}
	}
}

func TestNamesDiffer(t *testing.T) {
	votes := make(map[api.Name]api.Vote)
	grid(func(v api.Vote) {
		if !Valid(v) {
			return
		}
		if other, ok := votes[Name(v)]; ok {
			t.Errorf("P7.3: %v and %v have one name", v, other)
		}
		votes[Name(v)] = v
	})
}

func TestDecodeOfOtherLengths(t *testing.T) {
	for i, s := range samples {
		long := append([]byte(s.encoding), s.encoding...)
		for n := range len(long) + 1 {
			want := api.ErrShort
			if n > api.VoteLen {
				want = api.ErrLong
			}
			if n == api.VoteLen {
				continue
			}
			// The capacity has all of the bytes, and the first vote is valid: only the length counts.
			if v, e := Decode(long[:n]); e != want || v != (api.Vote{}) {
				t.Errorf("P7.2, R4: Decode of %d bytes of sample %d: %v, %d, want error %d", n, i, v, e, want)
			}
			if v, e := Decode(make([]byte, n)); e != want || v != (api.Vote{}) {
				t.Errorf("P7.2, R5: Decode of %d zero bytes: %v, %d, want error %d", n, v, e, want)
			}
		}
	}
	if v, e := Decode(nil); e != api.ErrShort || v != (api.Vote{}) {
		t.Errorf("P7.2, R3: Decode of nil: %v, %d", v, e)
	}
	if v, e := Decode(make([]byte, 1<<16)); e != api.ErrLong || v != (api.Vote{}) {
		t.Errorf("P7.2: Decode of 65536 bytes: %v, %d", v, e)
	}
}

// read returns the vote with the fields that P7.2 finds in VoteLen bytes, valid or not.
func read(b []byte) api.Vote {
	v := api.Vote{Kind: int(b[0]), Slot: int(b[1]), Round: int(b[2]), Choice: int(b[3]), Signer: int(b[4])}
	v.Support = api.Mask(b[5])*256 + api.Mask(b[6])
	v.Parent, v.Value = api.Name(b[7:15]), api.Name(b[15:23])
	return v
}

// checkDecode compares Decode of VoteLen bytes with the rules, and Encode with the bytes.
func checkDecode(t *testing.T, b []byte) {
	t.Helper()
	got, e := Decode(b)
	want := read(b)
	if !obeys(want) {
		if e != api.ErrVote || got != (api.Vote{}) {
			t.Errorf("P7.2, R4: Decode(%x) = %v, %d, want ErrVote", b, got, e)
		}
		return
	}
	if e != api.OK || got != want {
		t.Errorf("P7.2: Decode(%x) = %v, %d, want %v", b, got, e, want)
	}
	if again, ok := Encode(got); !ok || !bytes.Equal(again, b) {
		t.Errorf("P7.6: Decode of %x is encoded as %x, %v", b, again, ok)
	}
}

// TestDecodeOfEveryByte puts every byte at every position of the samples.
func TestDecodeOfEveryByte(t *testing.T) {
	for _, s := range samples {
		for i := range api.VoteLen {
			for c := range 256 {
				b := []byte(s.encoding)
				b[i] = byte(c)
				checkDecode(t, b)
			}
		}
	}
}

func TestDecodeOfGrid(t *testing.T) {
	grid(func(v api.Vote) {
		b := []byte{byte(v.Kind), byte(v.Slot), byte(v.Round), byte(v.Choice), byte(v.Signer), byte(v.Support >> 8), byte(v.Support)}
		b = append(append(b, v.Parent[:]...), v.Value[:]...)
		checkDecode(t, b)
	})
}

func TestArgumentsAndResultsAreSeparate(t *testing.T) {
	for i, s := range samples {
		a, _ := Encode(s.vote)
		b, _ := Encode(s.vote)
		clear(a[:cap(a)])
		if c, _ := Encode(s.vote); string(b) != s.encoding || string(c) != s.encoding {
			t.Errorf("P7.2, R2: encodings of sample %d share memory", i)
		}
		in := []byte(s.encoding)
		v, _ := Decode(in)
		if string(in) != s.encoding {
			t.Errorf("P7.2, R2: Decode of sample %d changes its argument", i)
		}
		clear(in)
		if v != s.vote {
			t.Errorf("P7.2, R2: Decode of sample %d keeps its argument", i)
		}
	}
}

// changes are single changes of a vote, and whether they change its key.
var changes = []struct {
	what   string
	change func(v *api.Vote)
	key    bool
}{
	{"Kind", func(v *api.Vote) { v.Kind++ }, true},
	{"Parent, first byte", func(v *api.Vote) { v.Parent[0]++ }, true},
	{"Parent, last byte", func(v *api.Vote) { v.Parent[7]++ }, true},
	{"Slot", func(v *api.Vote) { v.Slot++ }, true},
	{"Round", func(v *api.Vote) { v.Round++ }, true},
	{"Signer", func(v *api.Vote) { v.Signer-- }, true},
	{"Signer of another word", func(v *api.Vote) { v.Signer += 1 << 32 }, true},
	{"Choice", func(v *api.Vote) { v.Choice++ }, false},
	{"Value, first byte", func(v *api.Vote) { v.Value[0]++ }, false},
	{"Value, last byte", func(v *api.Vote) { v.Value[7]++ }, false},
	{"Support", func(v *api.Vote) { v.Support ^= 1 }, false},
	{"Support beyond the validators", func(v *api.Vote) { v.Support ^= 1 << 40 }, false},
	{"Choice, Value and Support", func(v *api.Vote) { v.Choice, v.Value, v.Support = -7, hash.Of(77), -1 }, false},
}

// TestSameKey changes samples, whether they stay valid or not.
func TestSameKey(t *testing.T) {
	for i, s := range samples {
		if !SameKey(s.vote, s.vote) {
			t.Errorf("P7.4: sample %d has its own key", i)
		}
		for _, c := range changes {
			v := s.vote
			c.change(&v)
			if SameKey(s.vote, v) == c.key || SameKey(v, s.vote) == c.key {
				t.Errorf("P7.4: sample %d and the same with another %s: SameKey = %v, %v", i, c.what, SameKey(s.vote, v), SameKey(v, s.vote))
			}
		}
		for j, other := range samples {
			if SameKey(s.vote, other.vote) != (i == j) {
				t.Errorf("P7.4: SameKey of samples %d and %d", i, j)
			}
		}
	}
}

func TestConflictOfSamples(t *testing.T) {
	for i, s := range samples {
		if Conflict(s.vote, s.vote) {
			t.Errorf("P7.6: sample %d is in conflict with itself", i)
		}
		for _, c := range changes {
			v := s.vote
			c.change(&v)
			want := !c.key && obeys(v)
			if Conflict(s.vote, v) != want || Conflict(v, s.vote) != want {
				t.Errorf("P7.4: Conflict of sample %d and the same with another %s: %v, %v", i, c.what, Conflict(s.vote, v), Conflict(v, s.vote))
			}
		}
	}
}

func TestConflictExamples(t *testing.T) {
	include := api.Vote{Kind: api.Precommit, Slot: 1, Round: 2, Choice: api.Include, Signer: 3, Support: 7, Parent: hash.Of(4), Value: hash.Of(5)}
	mixed := include
	mixed.Choice, mixed.Value = api.Mixed, api.Name{}
	if !Conflict(include, mixed) || !Conflict(mixed, include) {
		t.Error("P7.4: Include and Mixed of one signer, slot, round and parent are in conflict")
	}
	mixed.Round = 3
	if Conflict(include, mixed) || Conflict(mixed, include) {
		t.Error("P7.4: votes of two rounds are not in conflict")
	}
	other := include
	other.Support = 11
	if !Conflict(include, other) {
		t.Error("P7.4: votes that differ only in Support are in conflict")
	}
}

// crowd returns votes with few values in each field, most of them not valid.
func crowd() []api.Vote {
	var votes []api.Vote
	for i := range 1 << 8 {
		v := api.Vote{Kind: api.Prevote, Signer: i >> 4 & 1, Round: 1 + i>>5&1, Slot: i >> 6 & 1, Support: api.Mask(i&1) * 2}
		v.Kind += i >> 3 & 1
		v.Choice = i >> 2 & 1
		if i>>1&1 == 1 {
			v.Value = hash.Of(9)
		}
		if i>>7&1 == 1 {
			v.Parent = hash.Of(1)
		}
		votes = append(votes, v)
	}
	return votes
}

// TestConflictOfPairs compares Conflict with its definition for all pairs of a crowd and of all samples.
func TestConflictOfPairs(t *testing.T) {
	votes := crowd()
	for _, s := range samples {
		votes = append(votes, s.vote)
	}
	found := 0
	for i, a := range votes {
		for j, b := range votes {
			same := a.Kind == b.Kind && a.Parent == b.Parent && a.Slot == b.Slot && a.Round == b.Round && a.Signer == b.Signer
			if SameKey(a, b) != same {
				t.Fatalf("P7.4: SameKey(%v, %v) = %v", a, b, !same)
			}
			want := i != j && same && obeys(a) && obeys(b)
			if Conflict(a, b) != want || Conflict(b, a) != want {
				t.Fatalf("P7.4, P7.6: Conflict(%v, %v) = %v, %v", a, b, Conflict(a, b), Conflict(b, a))
			}
			if want {
				found++
			}
		}
	}
	if found == 0 {
		t.Error("no two votes of the crowd are in conflict")
	}
}

// ordered are votes such that each but the first is greater than the one before it by the field of P7.5 that is named, and less by all fields that come later.
var ordered = []struct {
	by   string
	vote api.Vote
}{
	{"", api.Vote{Support: math.MinInt, Value: hash.Of(0), Choice: 5, Signer: 5, Kind: 5, Round: 5, Slot: 5}},
	{"Support", api.Vote{Support: -1, Value: hash.Of(0), Choice: 5, Signer: 5, Kind: 5, Round: 5, Slot: 5}},
	{"Support", api.Vote{Support: 9, Value: hash.Of(0), Choice: 5, Signer: 5, Kind: 5, Round: 5, Slot: 5}},
	{"Support", api.Vote{Support: 1<<40 + 1, Value: hash.Of(0), Choice: 5, Signer: 5, Kind: 5, Round: 5, Slot: 5}},
	{"Support", api.Vote{Support: math.MaxInt, Value: hash.Of(0), Choice: 5, Signer: 5, Kind: 5, Round: 5, Slot: 5}},
	{"Value", api.Vote{Support: 8, Value: hash.Of(1), Choice: 5, Signer: 5, Kind: 5, Round: 5, Slot: 5}},
	{"Value", api.Vote{Support: 7, Value: hash.Of(256), Choice: 5, Signer: 5, Kind: 5, Round: 5, Slot: 5}},
	{"Value", api.Vote{Support: 6, Value: hash.Of(1 << 63), Choice: 5, Signer: 5, Kind: 5, Round: 5, Slot: 5}},
	{"Choice", api.Vote{Support: 5, Value: hash.Of(9), Choice: 6, Signer: 5, Kind: 5, Round: 5, Slot: 5}},
	{"Choice", api.Vote{Support: 4, Value: hash.Of(8), Choice: 256, Signer: 5, Kind: 5, Round: 5, Slot: 5}},
	{"Signer", api.Vote{Support: 3, Value: hash.Of(7), Choice: 4, Signer: 6, Kind: 5, Round: 5, Slot: 5}},
	{"Signer", api.Vote{Support: 2, Value: hash.Of(6), Choice: 3, Signer: 256, Kind: 5, Round: 5, Slot: 5}},
	{"Kind", api.Vote{Support: 1, Value: hash.Of(5), Choice: 2, Signer: 4, Kind: 6, Round: 5, Slot: 5}},
	{"Kind", api.Vote{Support: 0, Value: hash.Of(4), Choice: 1, Signer: 3, Kind: 256, Round: 5, Slot: 5}},
	{"Round", api.Vote{Support: -2, Value: hash.Of(3), Choice: 0, Signer: 2, Kind: 4, Round: 6, Slot: 5}},
	{"Round", api.Vote{Support: -3, Value: hash.Of(2), Choice: -1, Signer: 1, Kind: 3, Round: 256, Slot: 5}},
	{"Slot", api.Vote{Support: -4, Value: hash.Of(1), Choice: -2, Signer: 0, Kind: 2, Round: 4, Slot: 6}},
	{"Slot", api.Vote{Support: -5, Value: hash.Of(0), Choice: -3, Signer: -1, Kind: 1, Round: 3, Slot: 256}},
	{"Parent", api.Vote{Support: -6, Choice: -4, Signer: -2, Kind: 0, Round: 2, Slot: 4, Parent: hash.Of(1)}},
	{"Parent", api.Vote{Support: -7, Choice: -5, Signer: -3, Kind: -1, Round: 1, Slot: 3, Parent: hash.Of(256)}},
	{"Parent", api.Vote{Support: math.MinInt, Choice: math.MinInt, Signer: math.MinInt, Kind: math.MinInt, Round: math.MinInt, Slot: math.MinInt, Parent: hash.Of(1 << 63)}},
}

// TestLessIsAnOrder checks all pairs of ordered votes, and so that no vote is less than itself, and that of two unlike votes exactly one is less.
func TestLessIsAnOrder(t *testing.T) {
	for i, a := range ordered {
		for j, b := range ordered {
			if got := Less(a.vote, b.vote); got != (i < j) {
				t.Errorf("P7.5, P7.6: Less of vote %d (%s) and vote %d (%s) = %v", i, a.by, j, b.by, got)
			}
		}
	}
}

// place returns the numbers of v in the order in which P7.5 compares them.
func place(v api.Vote) []uint64 {
	flip := func(x int) uint64 { return uint64(x) ^ 1<<63 }
	return []uint64{hash.Number(v.Parent), flip(v.Slot), flip(v.Round), flip(v.Kind), flip(v.Signer), flip(v.Choice), hash.Number(v.Value), flip(int(v.Support))}
}

func TestLessOfPairs(t *testing.T) {
	votes := crowd()
	for _, s := range samples {
		votes = append(votes, s.vote)
	}
	for _, o := range ordered {
		votes = append(votes, o.vote)
	}
	for _, a := range votes {
		for _, b := range votes {
			if got, want := Less(a, b), slices.Compare(place(a), place(b)) < 0; got != want {
				t.Fatalf("P7.5: Less(%v, %v) = %v", a, b, got)
			}
		}
	}
}

// TestKeysAreNeighbors sorts the votes of a crowd: each key has its votes in one piece.
func TestKeysAreNeighbors(t *testing.T) {
	votes := crowd()
	slices.SortFunc(votes, func(a, b api.Vote) int {
		if Less(a, b) {
			return -1
		}
		if Less(b, a) {
			return 1
		}
		return 0
	})
	for i, a := range votes {
		for j := i + 1; j < len(votes); j++ {
			if SameKey(a, votes[j]) && !SameKey(a, votes[j-1]) {
				t.Fatalf("P7.6: %v is between %v and %v", votes[j-1], a, votes[j])
			}
		}
	}
}
