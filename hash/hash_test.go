package hash

import (
	"bytes"
	"testing"

	"forkledger/api"
)

// squares returns n bytes without a short period.
func squares(n int) []byte {
	b := make([]byte, n)
	for i := range b {
		b[i] = byte(i * i % 251)
	}
	return b
}

// The numbers of this table come from a computation of P1.2 outside of this program.
var sums = []struct {
	input string
	want  uint64
}{
	{"", 0xe04a9e77bbd75533},
	{"\x00", 0x11d08470552780a6},
	{"a", 0x55f74488836b26f4},
	{"ab", 0x8da6485398d981bb},
	{"abcdefg", 0x06e9d5ee7b5ac0d2},
	{"abcdefgh", 0x9d424dbb604fac2c},
	{"abcdefghi", 0x3c99070f36084278},
	{"abcdefghijklmnop", 0x2e50c1ff11d8026b},
	{"\xff\xff\xff\xff\xff\xff\xff\xff", 0x83dbc02734dd5ae7},
	{"\x00\x00\x00\x00\x00\x00\x00\x00", 0xc4be984dff917249},
	{"\x00\x00\x00\x00\x00\x00\x00\x00\x00", 0x41c6be17dca2079b},
	{string(squares(1000)), 0x0812dbbd60e33f01},
}

// ascending are names in ascending order that differ in one or in several bytes.
var ascending = []api.Name{
	{},
	{0, 0, 0, 0, 0, 0, 0, 1},
	{0, 0, 0, 0, 0, 0, 0, 0x80},
	{0, 0, 0, 0, 0, 0, 0, 0xff},
	{0, 0, 0, 0, 0, 0, 1, 0},
	{0, 0, 0, 0, 0, 0, 1, 1},
	{0, 0, 0, 1, 0, 0, 0, 0},
	{0, 0, 0, 1, 0xff, 0xff, 0xff, 0xff},
	{0x7f, 0xff, 0xff, 0xff, 0xff, 0xff, 0xff, 0xff},
	{0x80},
	{0x80, 0, 0, 0, 0, 0, 0, 1},
	{0xff, 0xff, 0xff, 0xff, 0xff, 0xff, 0xff, 0xfe},
	{0xff, 0xff, 0xff, 0xff, 0xff, 0xff, 0xff, 0xff},
}

func TestNumberHighestByteFirst(t *testing.T) {
	for i, c := range []struct {
		name   api.Name
		number uint64
	}{
		{api.Name{}, 0},
		{api.Name{0, 0, 0, 0, 0, 0, 0, 5}, 5},
		{api.Name{0, 0, 0, 0, 0, 0, 1, 0}, 256},
		{api.Name{1, 2, 3, 4, 5, 6, 7, 8}, 0x0102030405060708},
		{api.Name{0x80}, 1 << 63},
		{api.Name{0xff, 0xff, 0xff, 0xff, 0xff, 0xff, 0xff, 0xff}, 1<<64 - 1},
	} {
		if got := Number(c.name); got != c.number {
			t.Errorf("P1.1, case %d: Number = %x, want %x", i, got, c.number)
		}
		if got := Of(c.number); got != c.name {
			t.Errorf("P1.1, case %d: Of = %x, want %x", i, got, c.name)
		}
	}
}

func TestNumberOfEachBit(t *testing.T) {
	for i := range 64 {
		if v := uint64(1) << i; Number(Of(v)) != v {
			t.Errorf("P1.1: Number(Of(%x)) = %x", v, Number(Of(v)))
		}
	}
}

// TestLess checks P1.1 for all pairs of names, and so irreflexivity, asymmetry, transitivity and totality of P1.4.
func TestLess(t *testing.T) {
	for i, a := range ascending {
		for j, b := range ascending {
			if got := Less(a, b); got != (i < j) {
				t.Errorf("P1.1, P1.4: Less(%x, %x) = %v", a, b, got)
			}
		}
	}
}

func TestLessExamples(t *testing.T) {
	if !Less(Of(1), Of(256)) || Less(Of(256), Of(1)) || Less(Of(5), Of(5)) {
		t.Error("P1.1: Less does not compare the numbers of the names")
	}
}

func TestSum(t *testing.T) {
	for i, c := range sums {
		if got := Number(Sum([]byte(c.input))); got != c.want {
			t.Errorf("P1.2, case %d (%d bytes): %#x, want %#x", i, len(c.input), got, c.want)
		}
	}
}

func TestSumOfNil(t *testing.T) {
	if Sum(nil) != Sum([]byte{}) || Sum(nil) != Of(sums[0].want) {
		t.Error("P1.2, R3: nil is not hashed like no bytes")
	}
}

func TestSumReadsOnlyItsInput(t *testing.T) {
	for n := range 40 {
		long := squares(n + 20)
		before := bytes.Clone(long)
		if Sum(long[:n]) != Sum(bytes.Clone(long[:n])) {
			t.Errorf("R2: Sum of %d bytes depends on the bytes behind them", n)
		}
		if !bytes.Equal(long, before) {
			t.Errorf("R2: Sum of %d bytes changes memory", n)
		}
	}
}

func TestTagged(t *testing.T) {
	for _, c := range []struct {
		tag   byte
		input string
		want  uint64
	}{
		{7, "xyz", 0x6fc201c3197bc6f0},
		{0x10, "", 0x2e9b35ea981704be},
		{0xff, "abcdefgh", 0xca46b6f10d3622c1},
	} {
		if got := Number(Tagged(c.tag, []byte(c.input))); got != c.want {
			t.Errorf("P1.3: Tagged(%d, %q) = %#x, want %#x", c.tag, c.input, got, c.want)
		}
	}
}

func TestTaggedIsSumOfTagAndBytes(t *testing.T) {
	for n := range 60 {
		for _, tag := range []byte{0, 1, 0x80, 0xff} {
			if b := squares(n); Tagged(tag, b) != Sum(append([]byte{tag}, b...)) {
				t.Errorf("P1.3: Tagged(%d, %d bytes) is not the Sum of both", tag, n)
			}
		}
	}
	if Tagged(3, nil) != Sum([]byte{3}) || Tagged(3, nil) == Tagged(4, nil) {
		t.Error("P1.3: Tagged of nil is not the Sum of the tag alone")
	}
}

func TestTaggedReadsOnlyItsInput(t *testing.T) {
	for n := range 40 {
		long := squares(n + 20)
		before := bytes.Clone(long)
		if Tagged(9, long[:n]) != Tagged(9, bytes.Clone(long[:n])) {
			t.Errorf("R2: Tagged of %d bytes depends on the bytes behind them", n)
		}
		if !bytes.Equal(long, before) {
			t.Errorf("R2: Tagged of %d bytes changes memory", n)
		}
	}
}

func TestPair(t *testing.T) {
	if got := Number(Pair(0x12, Of(1), Of(2))); got != 0xf7aa2fb96ecf692f {
		t.Errorf("P1.3: Pair(0x12, 1, 2) = %#x", got)
	}
	if got := Number(Pair(0, api.Name{}, api.Name{})); got != 0x229795f14a8ad79f {
		t.Errorf("P1.3: Pair of zero names = %#x", got)
	}
	for _, x := range ascending {
		for _, y := range ascending {
			if Pair(0xff, x, y) != Tagged(0xff, append(x[:], y[:]...)) {
				t.Errorf("P1.3: Pair(0xff, %x, %x) is not Tagged of both", x, y)
			}
			if x != y && Pair(1, x, y) == Pair(1, y, x) {
				t.Errorf("P1.3: Pair ignores the order of %x and %x", x, y)
			}
		}
	}
}

// TestLengthIsHashed appends up to 16 zero bytes to inputs of all lengths: the words stay alike, or only zero words are added.
func TestLengthIsHashed(t *testing.T) {
	for n := range 20 {
		seen := map[api.Name]int{}
		for extra := range 17 {
			h := Sum(append(squares(n), make([]byte, extra)...))
			if other, ok := seen[h]; ok {
				t.Errorf("P1.4: %d bytes and %d or %d zero bytes have one name", n, other, extra)
			}
			seen[h] = extra
		}
	}
}
