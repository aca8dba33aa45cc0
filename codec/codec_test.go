package codec

import (
	"bytes"
	"math"
	"slices"
	"testing"

	"forkledger/api"
)

// counting returns the n bytes 1, 2, 3 and so on.
func counting(n int) []byte {
	b := make([]byte, n)
	for i := range b {
		b[i] = byte(i + 1)
	}
	return b
}

// names returns n names that differ in their first and last bytes.
func names(n int) []api.Name {
	l := make([]api.Name, n)
	for i := range l {
		l[i] = api.Name{byte(i), byte(i >> 8), 3, 4, 5, 6, 7, byte(255 - i)}
	}
	return l
}

// offsets are offsets at which nothing can be read from size bytes.
func offsets(size int) []int {
	return []int{-1, -size, -8, math.MinInt, math.MinInt + 7, size, size + 1, size + 8, math.MaxInt - 7, math.MaxInt}
}

func TestAppendUint(t *testing.T) {
	for i, c := range []struct {
		v     uint64
		width int
		want  string
	}{
		{258, 2, "\x01\x02"},
		{0, 0, ""},
		{258, 0, ""},
		{0, 1, "\x00"},
		{255, 1, "\xff"},
		{258, 1, "\x02"},
		{0x12345678, 2, "\x56\x78"},
		{258, 3, "\x00\x01\x02"},
		{0x0102030405060708, 4, "\x05\x06\x07\x08"},
		{0x0102030405060708, 7, "\x02\x03\x04\x05\x06\x07\x08"},
		{0x0102030405060708, 8, "\x01\x02\x03\x04\x05\x06\x07\x08"},
		{0x0102030405060708, 9, "\x01\x02\x03\x04\x05\x06\x07\x08"},
		{math.MaxUint64, math.MaxInt, "\xff\xff\xff\xff\xff\xff\xff\xff"},
		{math.MaxUint64, -1, ""},
		{math.MaxUint64, math.MinInt, ""},
	} {
		for _, b := range []string{"", "b", "some bytes"} {
			if got := AppendUint([]byte(b), c.v, c.width); string(got) != b+c.want {
				t.Errorf("P2.1, case %d: AppendUint to %q: %x, want %x", i, b, got, b+c.want)
			}
		}
		if got := AppendUint(nil, c.v, c.width); string(got) != c.want {
			t.Errorf("P2.1, R3, case %d: AppendUint to nil: %x, want %x", i, got, c.want)
		}
	}
}

func TestUint(t *testing.T) {
	b := []byte{0, 1, 2, 0xfd, 4, 5, 6, 7, 0xff}
	for i, c := range []struct {
		at, width int
		want      uint64
	}{
		{0, 1, 0},
		{3, 1, 0xfd},
		{8, 1, 0xff},
		{0, 2, 1},
		{1, 2, 0x0102},
		{7, 2, 0x07ff},
		{1, 4, 0x0102fd04},
		{0, 8, 0x000102fd04050607},
		{1, 8, 0x0102fd04050607ff},
	} {
		if got, ok := Uint(b, c.at, c.width); got != c.want || !ok {
			t.Errorf("P2.1, case %d: Uint(b, %d, %d) = %x, %v, want %x", i, c.at, c.width, got, ok, c.want)
		}
	}
	if got, ok := Uint(bytes.Repeat([]byte{0xff}, 8), 0, 8); got != math.MaxUint64 || !ok {
		t.Errorf("P2.1: Uint of eight bytes ff: %x, %v", got, ok)
	}
}

func TestUintRefuses(t *testing.T) {
	b := counting(20)
	for _, width := range []int{-1, 0, 9, 16, math.MinInt, math.MinInt + 1, math.MaxInt} {
		for _, at := range append(offsets(len(b)), 0, 5) {
			if got, ok := Uint(b, at, width); ok || got != 0 {
				t.Errorf("P2.1, R4: Uint(20 bytes, %d, %d) = %x, %v", at, width, got, ok)
			}
		}
	}
	for width := 1; width <= 8; width++ {
		for _, at := range append(offsets(len(b)), len(b)-width+1) {
			if got, ok := Uint(b, at, width); ok || got != 0 {
				t.Errorf("P2.1, R4: Uint(20 bytes, %d, %d) = %x, %v", at, width, got, ok)
			}
		}
		if got, ok := Uint(b, len(b)-width, width); !ok {
			t.Errorf("P2.1: Uint of the last %d bytes: %x, %v", width, got, ok)
		}
		if got, ok := Uint(nil, 0, width); ok || got != 0 {
			t.Errorf("P2.1, R4: Uint(nil, 0, %d) = %x, %v", width, got, ok)
		}
	}
}

func TestAppendBytes(t *testing.T) {
	for i, c := range []struct {
		p, want string
	}{
		{"ab", "\x00\x02ab"},
		{"", "\x00\x00"},
		{"\x00", "\x00\x01\x00"},
		{string(counting(255)), "\x00\xff" + string(counting(255))},
		{string(counting(258)), "\x01\x02" + string(counting(258))},
		{string(counting(65535)), "\xff\xff" + string(counting(65535))},
	} {
		for _, b := range []string{"", "b", "some bytes"} {
			if got, ok := AppendBytes([]byte(b), []byte(c.p)); string(got) != b+c.want || !ok {
				t.Errorf("P2.2, case %d: AppendBytes to %q is wrong (%d bytes, %v)", i, b, len(got), ok)
			}
		}
	}
	if got, ok := AppendBytes(nil, nil); string(got) != "\x00\x00" || !ok {
		t.Errorf("P2.2, R3: AppendBytes(nil, nil) = %x, %v", got, ok)
	}
	for _, n := range []int{65536, 65537, 131071, 1 << 17} {
		if got, ok := AppendBytes([]byte("b"), make([]byte, n)); ok || len(got) > 0 {
			t.Errorf("P2.2, R4: AppendBytes of %d bytes: %d bytes, %v", n, len(got), ok)
		}
	}
}

func TestBytes(t *testing.T) {
	for i, c := range []struct {
		b   string
		at  int
		p   string
		end int
	}{
		{"\x00\x02ab", 0, "ab", 4},
		{"\x00\x00", 0, "", 2},
		{"\x00\x00\x05", 0, "", 2},
		{"\x00\x01abc", 0, "a", 3},
		{"..\x00\x03abc.", 2, "abc", 7},
		{"..\x00\x00", 2, "", 4},
		{"\x01\x02" + string(counting(300)), 0, string(counting(258)), 260},
		{".\xff\xff" + string(counting(65535)), 1, string(counting(65535)), 65538},
	} {
		if p, end, ok := Bytes([]byte(c.b), c.at); string(p) != c.p || end != c.end || !ok {
			t.Errorf("P2.2, case %d: Bytes: %d bytes, %d, %v, want %d bytes, %d", i, len(p), end, ok, len(c.p), c.end)
		}
	}
}

func TestBytesRefuses(t *testing.T) {
	full := "\x00\x03abc"
	for n := range len(full) {
		if p, end, ok := Bytes([]byte(full[:n]), 0); ok || end != 0 || len(p) > 0 {
			t.Errorf("P2.2, R4: Bytes of %q: %q, %d, %v", full[:n], p, end, ok)
		}
	}
	for _, b := range []string{full, "\x00\x00", "\xff\xff", "\x00", ""} {
		for _, at := range append(offsets(len(b)), len(b)-1) {
			if p, end, ok := Bytes([]byte(b), at); ok || end != 0 || len(p) > 0 {
				t.Errorf("P2.2, R4: Bytes(%q, %d) = %q, %d, %v", b, at, p, end, ok)
			}
		}
	}
	if p, end, ok := Bytes(append([]byte{0xff, 0xff}, make([]byte, 65534)...), 0); ok || end != 0 || len(p) > 0 {
		t.Errorf("P2.2, R4: Bytes of 65534 of 65535 bytes: %d bytes, %d, %v", len(p), end, ok)
	}
	if p, end, ok := Bytes(nil, 0); ok || end != 0 || len(p) > 0 {
		t.Errorf("P2.2, R4: Bytes(nil, 0) = %q, %d, %v", p, end, ok)
	}
}

func TestAppendNames(t *testing.T) {
	for _, n := range []int{0, 1, 2, 7, 128, 254, 255} {
		l := names(n)
		want := []byte{'b', byte(n)}
		for _, name := range l {
			want = append(want, name[:]...)
		}
		if got, ok := AppendNames([]byte("b"), l); !bytes.Equal(got, want) || !ok {
			t.Errorf("P2.3: AppendNames of %d names is wrong (%d bytes, %v)", n, len(got), ok)
		}
		if got, ok := AppendNames(nil, l); !bytes.Equal(got, want[1:]) || !ok {
			t.Errorf("P2.3, R3: AppendNames of %d names to nil is wrong (%d bytes, %v)", n, len(got), ok)
		}
	}
	if got, ok := AppendNames(nil, nil); string(got) != "\x00" || !ok {
		t.Errorf("P2.3, R3: AppendNames(nil, nil) = %x, %v", got, ok)
	}
	// The names are a sequence: neither sorted nor freed of duplicates.
	if got, ok := AppendNames(nil, []api.Name{{2}, {1}, {1}}); len(got) != 25 || got[1] != 2 || got[9] != 1 || got[17] != 1 || !ok {
		t.Errorf("P2.3: AppendNames does not keep the order of names: %x, %v", got, ok)
	}
	for _, n := range []int{256, 257, 511, 1000} {
		if got, ok := AppendNames([]byte("b"), names(n)); ok || len(got) > 0 {
			t.Errorf("P2.3, R4: AppendNames of %d names: %d bytes, %v", n, len(got), ok)
		}
	}
}

func TestNames(t *testing.T) {
	for _, n := range []int{0, 1, 2, 7, 128, 254, 255} {
		for _, before := range []int{0, 1, 5} {
			b := append(make([]byte, before), byte(n))
			for _, name := range names(n) {
				b = append(b, name[:]...)
			}
			for _, after := range []int{0, 1, 9} {
				l, end, ok := Names(append(b[:len(b):len(b)], make([]byte, after)...), before)
				if !slices.Equal(l, names(n)) || end != len(b) || !ok {
					t.Errorf("P2.3: Names of %d names between %d and %d bytes: %d names, %d, %v", n, before, after, len(l), end, ok)
				}
			}
		}
	}
}

func TestNamesRefuses(t *testing.T) {
	full := append([]byte{3}, counting(24)...)
	for n := range len(full) {
		if l, end, ok := Names(full[:n], 0); ok || end != 0 || len(l) > 0 {
			t.Errorf("P2.3, R4: Names of %d of 25 bytes: %x, %d, %v", n, l, end, ok)
		}
	}
	if l, end, ok := Names(append([]byte{255}, make([]byte, 255*8-1)...), 0); ok || end != 0 || len(l) > 0 {
		t.Errorf("P2.3, R4: Names of 255 names without the last byte: %d names, %d, %v", len(l), end, ok)
	}
	for _, b := range [][]byte{full, {0}, {255}, {}, nil} {
		for _, at := range offsets(len(b)) {
			if l, end, ok := Names(b, at); ok || end != 0 || len(l) > 0 {
				t.Errorf("P2.3, R4: Names(%x, %d) = %x, %d, %v", b, at, l, end, ok)
			}
		}
	}
	if l, end, ok := Names(nil, 0); ok || end != 0 || len(l) > 0 {
		t.Errorf("P2.3, R4: Names(nil, 0) = %x, %d, %v", l, end, ok)
	}
}

// TestAppendReturnsNewMemory appends to a slice with room behind it, where appending in place would show.
func TestAppendReturnsNewMemory(t *testing.T) {
	p, l := counting(5), names(3)
	for name, f := range map[string]func(b []byte) []byte{
		"AppendUint, width 8":      func(b []byte) []byte { return AppendUint(b, 7, 8) },
		"AppendUint, width 0":      func(b []byte) []byte { return AppendUint(b, 7, 0) },
		"AppendBytes":              func(b []byte) []byte { out, _ := AppendBytes(b, p); return out },
		"AppendBytes of no bytes":  func(b []byte) []byte { out, _ := AppendBytes(b, nil); return out },
		"AppendNames":              func(b []byte) []byte { out, _ := AppendNames(b, l); return out },
		"AppendNames of no names":  func(b []byte) []byte { out, _ := AppendNames(b, nil); return out },
		"AppendBytes, too long":    func(b []byte) []byte { out, _ := AppendBytes(b, make([]byte, 65536)); return out },
		"AppendNames, too many":    func(b []byte) []byte { out, _ := AppendNames(b, names(256)); return out },
		"AppendBytes to p itself":  func([]byte) []byte { out, _ := AppendBytes(p[:2], p); return out },
		"AppendUint in p's middle": func([]byte) []byte { return AppendUint(p[:2], 7, 2) },
	} {
		room := counting(100)
		out := f(room[:10])
		clear(out[:cap(out)])
		if !bytes.Equal(room, counting(100)) || !bytes.Equal(p, counting(5)) || !slices.Equal(l, names(3)) {
			t.Errorf("P2.1 to P2.3, R2: %s shares memory with an argument or changes it", name)
		}
	}
}

// TestReadReturnsNewMemory changes what was read and then the input, and looks for the change on the other side.
func TestReadReturnsNewMemory(t *testing.T) {
	b, _ := AppendBytes(nil, counting(6))
	b, _ = AppendNames(b, names(2))
	before := bytes.Clone(b)
	p, at, _ := Bytes(b, 0)
	l, _, _ := Names(b, at)
	p[0], l[0][0] = 99, 99
	if !bytes.Equal(b, before) {
		t.Error("P2.2, P2.3, R2: the result of Bytes or Names shares memory with the input")
	}
	p, _, _ = Bytes(b, 0)
	l, _, _ = Names(b, at)
	clear(b)
	if !bytes.Equal(p, counting(6)) || !slices.Equal(l, names(2)) {
		t.Error("P2.2, P2.3, R2: the result of Bytes or Names changes with the input")
	}
}

// TestReadOnlyWithinLength reads slices whose missing bytes are there, but beyond the length.
func TestReadOnlyWithinLength(t *testing.T) {
	b := append([]byte{0, 1}, counting(30)...)
	if v, ok := Uint(b[:3], 1, 3); ok || v != 0 {
		t.Errorf("P2.1, R2: Uint reads beyond the length: %x", v)
	}
	if p, end, ok := Bytes(b[:2], 0); ok || end != 0 || len(p) > 0 {
		t.Errorf("P2.2, R2: Bytes reads beyond the length: %x", p)
	}
	if l, end, ok := Names(b[:9], 1); ok || end != 0 || len(l) > 0 {
		t.Errorf("P2.3, R2: Names reads beyond the length: %x", l)
	}
}

func TestUintIsReadBack(t *testing.T) {
	for width := 1; width <= 8; width++ {
		for bit := range 8 * width {
			for _, v := range []uint64{0, 1 << bit, 1<<bit - 1, 1<<bit | 1, math.MaxUint64 >> (63 - bit)} {
				b := AppendUint([]byte("b"), v, width)
				if got, ok := Uint(b, 1, width); got != v || !ok || len(b) != 1+width {
					t.Errorf("P2.4: %x in %d bytes is read back as %x, %v", v, width, got, ok)
				}
			}
		}
	}
}

func TestSequenceIsReadBack(t *testing.T) {
	for n := range 40 {
		b := AppendUint(nil, uint64(n), 1+n%8)
		b, _ = AppendBytes(b, counting(7*n))
		b, _ = AppendNames(b, names(n))
		b, _ = AppendBytes(b, counting(n))
		v, ok1 := Uint(b, 0, 1+n%8)
		p, at, ok2 := Bytes(b, 1+n%8)
		l, at, ok3 := Names(b, at)
		q, at, ok4 := Bytes(b, at)
		if !ok1 || !ok2 || !ok3 || !ok4 || at != len(b) {
			t.Errorf("P2.4, n = %d: the sequence is not read to its end: %d of %d bytes", n, at, len(b))
		}
		if v != uint64(n) || !bytes.Equal(p, counting(7*n)) || !slices.Equal(l, names(n)) || !bytes.Equal(q, counting(n)) {
			t.Errorf("P2.4, n = %d: the sequence is read back as others", n)
		}
	}
}

// shortStrings returns all byte strings of up to n bytes 0, 1 and 2: those that lengths look like.
func shortStrings(n int) []string {
	all, from := []string{""}, 0
	for range n {
		to := len(all)
		for _, s := range all[from:to] {
			all = append(all, s+"\x00", s+"\x01", s+"\x02")
		}
		from = to
	}
	return all
}

// TestSequencesOfBytesDiffer encodes all pairs of short byte strings.
func TestSequencesOfBytesDiffer(t *testing.T) {
	seen := map[string][2]string{}
	for _, x := range shortStrings(3) {
		for _, y := range shortStrings(3) {
			b, _ := AppendBytes(nil, []byte(x))
			b, _ = AppendBytes(b, []byte(y))
			if other, ok := seen[string(b)]; ok {
				t.Errorf("P2.4: %q, %q is encoded like %q", x, y, other)
			}
			seen[string(b)] = [2]string{x, y}
		}
	}
}

// TestSequencesOfNamesDiffer splits sequences of equal names into two lists in all ways.
func TestSequencesOfNamesDiffer(t *testing.T) {
	seen := map[string][2]int{}
	for x := range 20 {
		for y := range 20 {
			b, _ := AppendNames(nil, make([]api.Name, x))
			b, _ = AppendNames(b, make([]api.Name, y))
			if other, ok := seen[string(b)]; ok {
				t.Errorf("P2.4: %d and %d names are encoded like %d", x, y, other)
			}
			seen[string(b)] = [2]int{x, y}
		}
	}
}

// TestOneEncoding reads all short inputs and encodes what was read: the bytes are the same, so no second encoding is read.
func TestOneEncoding(t *testing.T) {
	for _, s := range shortStrings(6) {
		if p, end, ok := Bytes([]byte(s), 0); ok {
			if b, _ := AppendBytes(nil, p); string(b) != s[:end] {
				t.Errorf("P2.4: Bytes reads %q as %q, whose encoding is %q", s[:end], p, b)
			}
		}
	}
	for _, s := range shortStrings(2) {
		input := append([]byte(s), make([]byte, 20)...)
		if l, end, ok := Names(input, 0); ok {
			if b, _ := AppendNames(nil, l); !bytes.Equal(b, input[:end]) {
				t.Errorf("P2.4: Names reads %x as %x, whose encoding is %x", input[:end], l, b)
			}
		}
	}
}
