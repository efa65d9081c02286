package digest

import (
	"bytes"
	"crypto/sha256"
	"encoding/binary"
	"encoding/hex"
	"fmt"
	"math/rand"
	"slices"
	"strings"
	"testing"

	"lychgate/api"
)

// some returns n bytes in which every value occurs once n is large enough; seed varies them.
func some(n int, seed int64) []byte {
	b := make([]byte, n)
	rand.New(rand.NewSource(seed)).Read(b)
	return b
}

func hexOf(b []byte) string {
	d := Of(b)
	return Hex(d[:])
}

// TestOfKnown (P2.1): the examples of FIPS 180-4 and of the chapter.
func TestOfKnown(t *testing.T) {
	for _, c := range []struct{ bytes, want string }{
		{"", "e3b0c44298fc1c149afbf4c8996fb92427ae41e4649b934ca495991b7852b855"},
		{"abc", "ba7816bf8f01cfea414140de5dae2223b00361a396177a9cb410ff61f20015ad"},
		{"\x00", "6e340b9cffb37a989ca544e6bb780a2c78901d3fb33738768511a30617afa01d"},
		{"\xbd", "68325720aabd7c82f30f554b313d0570c95accbb7dc4b5aae11204c08ffe732b"},
		{"abcdbcdecdefdefgefghfghighijhijkijkljklmklmnlmnomnopnopq", "248d6a61d20638b8e5c026930c3e6039a33ce45964ff2167f6ecedd419db06c1"},
		{"abcdefghbcdefghicdefghijdefghijkefghijklfghijklmghijklmnhijklmnoijklmnopjklmnopqklmnopqrlmnopqrsmnopqrstnopqrstu", "cf5b16a778af8380036ce59e7b0492370b249b11e8f07a51afac45037afee9d1"},
		{strings.Repeat("a", 1000000), "cdc76e5c9914fb9281a1c7e284d73e67f1809a48a497200e046d39ccc7112cd0"},
	} {
		if got := hexOf([]byte(c.bytes)); got != c.want {
			t.Errorf("Of(%.20q, %d bytes) = %s, want %s", c.bytes, len(c.bytes), got, c.want)
		}
	}
	if hexOf(nil) != hexOf([]byte{}) || hexOf(nil) != "e3b0c44298fc1c149afbf4c8996fb92427ae41e4649b934ca495991b7852b855" {
		t.Error("nil is not digested as no bytes")
	}
}

// TestOfEveryLength (P2.1): all lengths of the first blocks, so also those at
// which the padding needs a block of its own, and some long ones.
func TestOfEveryLength(t *testing.T) {
	for n := range 400 {
		for _, b := range [][]byte{some(n, int64(n)), make([]byte, n), bytes.Repeat([]byte{255}, n), bytes.Repeat([]byte{128}, n)} {
			if Of(b) != sha256.Sum256(b) {
				t.Errorf("Of of %d bytes %.8x.. is wrong", n, b)
			}
		}
	}
	for _, n := range []int{1 << 12, 1<<13 - 1, 1<<13 + 55, 1<<13 + 56, 1<<16 + 1, 1 << 20} {
		if b := some(n, 1); Of(b) != sha256.Sum256(b) {
			t.Errorf("Of of %d bytes is wrong", n)
		}
	}
}

// TestPadding (P2.1): a byte 128, as few bytes 0 as possible, and the number of
// bits in eight bytes, also of so many bytes that no test can add them.
func TestPadding(t *testing.T) {
	totals := []int{1<<28 - 1, 1 << 28, 1<<29 - 1, 1 << 29, 1<<29 + 3, 1<<31 - 1}
	for n := range 200 {
		totals = append(totals, n)
	}
	for _, n := range totals {
		p := padding(n)
		zeros := len(p) - 9
		if zeros < 0 || zeros > 63 || (n+len(p))%64 != 0 {
			t.Fatalf("padding(%d) has %d bytes", n, len(p))
		}
		if p[0] != 128 || !bytes.Equal(p[1:1+zeros], make([]byte, zeros)) || binary.BigEndian.Uint64(p[1+zeros:]) != uint64(n)*8 {
			t.Errorf("padding(%d) = %x", n, p)
		}
	}
}

// TestOfSingleBytes (P2.1): every byte value, alone and repeated.
func TestOfSingleBytes(t *testing.T) {
	for x := range 256 {
		for _, n := range []int{1, 64} {
			b := bytes.Repeat([]byte{byte(x)}, n)
			if Of(b) != sha256.Sum256(b) {
				t.Errorf("Of of %d times %d is wrong", n, x)
			}
		}
	}
}

// TestSumPieces (P2.2): one piece size after another, for lengths around the
// ends of blocks, with pieces of no bytes between.
func TestSumPieces(t *testing.T) {
	for _, n := range []int{0, 1, 2, 54, 55, 56, 57, 62, 63, 64, 65, 119, 120, 121, 127, 128, 129, 200} {
		b := some(n, int64(n))
		want := sha256.Sum256(b)
		for size := 1; size <= n+1; size++ {
			s := New()
			for p := range slices.Chunk(b, size) {
				s.Add(p)
				s.Add(nil)
				s.Add([]byte{})
			}
			if s.Now() != want {
				t.Errorf("%d bytes in pieces of %d: %x, want %x", n, size, s.Now(), want)
			}
		}
	}
}

// TestSumCuts (P2.2): two and three pieces, cut anywhere.
func TestSumCuts(t *testing.T) {
	b := some(150, 7)
	want := sha256.Sum256(b)
	for i := 0; i <= len(b); i++ {
		for j := i; j <= len(b); j++ {
			s := New()
			s.Add(b[:i])
			s.Add(b[i:j])
			if n := s.Add(b[j:]); n != len(b) || s.Now() != want {
				t.Fatalf("cut at %d and %d: %d bytes, %x", i, j, n, s.Now())
			}
		}
	}
}

// TestSumRandomPieces (P2.2): long inputs in pieces of mixed lengths.
func TestSumRandomPieces(t *testing.T) {
	r := rand.New(rand.NewSource(3))
	for range 200 {
		b := some(r.Intn(2000), r.Int63())
		s := New()
		for at := 0; at < len(b); {
			end := min(len(b), at+r.Intn(200))
			s.Add(b[at:end])
			at = end
		}
		if s.Now() != sha256.Sum256(b) {
			t.Fatalf("%d bytes in pieces: wrong digest", len(b))
		}
	}
}

// TestSumAddCounts (P2.1): Add tells the total, not the piece.
func TestSumAddCounts(t *testing.T) {
	s := New()
	total := 0
	for _, n := range []int{0, 1, 0, 62, 1, 0, 64, 65, 1000, 0, 3} {
		total += n
		if got := s.Add(make([]byte, n)); got != total {
			t.Errorf("Add of %d bytes = %d, want %d", n, got, total)
		}
	}
	if got := s.Add(nil); got != total {
		t.Errorf("Add(nil) = %d, want %d", got, total)
	}
	if got := New().Add(nil); got != 0 {
		t.Errorf("Add(nil) of a new Sum = %d", got)
	}
}

// TestSumNowThenMore (P2.1): Now can be asked after every byte, twice, and
// changes nothing of what follows.
func TestSumNowThenMore(t *testing.T) {
	b := some(200, 11)
	s := New()
	for n := range b {
		want := sha256.Sum256(b[:n])
		if first, second := s.Now(), s.Now(); first != want || second != want {
			t.Fatalf("Now after %d bytes: %x and %x, want %x", n, first, second, want)
		}
		if got := s.Add(b[n : n+1]); got != n+1 {
			t.Fatalf("Add after Now = %d, want %d", got, n+1)
		}
	}
}

// TestSumsApart: two running digests, and a digest that was returned, do not
// share anything.
func TestSumsApart(t *testing.T) {
	a, b := New(), New()
	a.Add([]byte("ab"))
	b.Add([]byte("xy"))
	early := a.Now()
	a.Add([]byte("c"))
	if a.Now() != sha256.Sum256([]byte("abc")) || b.Now() != sha256.Sum256([]byte("xy")) {
		t.Error("two Sums mix their bytes")
	}
	if early != sha256.Sum256([]byte("ab")) {
		t.Error("a digest changed after it was returned")
	}
}

// TestNilSum (R7): a nil Sum adds nothing, and has the digest of no bytes.
func TestNilSum(t *testing.T) {
	var s *Sum
	for _, b := range [][]byte{nil, {}, []byte("abc"), make([]byte, 64), make([]byte, 200)} {
		if n := s.Add(b); n != 0 {
			t.Errorf("Add of %d bytes to a nil Sum = %d", len(b), n)
		}
		if d := s.Now(); d != sha256.Sum256(nil) {
			t.Errorf("Now of a nil Sum = %x", d)
		}
	}
}

// TestZeroSum: a Sum that New did not make is one of no bytes.
func TestZeroSum(t *testing.T) {
	var s Sum
	if s.Now() != sha256.Sum256(nil) {
		t.Errorf("Now of the zero Sum = %x", s.Now())
	}
	if n := s.Add([]byte("abc")); n != 3 || s.Now() != sha256.Sum256([]byte("abc")) {
		t.Errorf("abc in the zero Sum: %d, %x", n, s.Now())
	}
}

// TestArgumentsKept (R4): bytes given are not changed, and may be changed
// afterwards without any effect.
func TestArgumentsKept(t *testing.T) {
	for _, n := range []int{3, 64, 100, 130} {
		whole := some(n+20, 5)
		b, kept := whole[:n], slices.Clone(whole)
		s := New()
		s.Add(b)
		Of(b)
		Short(b)
		Hex(b)
		if !slices.Equal(whole, kept) {
			t.Errorf("%d bytes were changed", n)
		}
		clear(whole)
		if s.Now() != sha256.Sum256(kept[:n]) {
			t.Errorf("%d bytes were retained", n)
		}
	}
}

// TestHex (P2.1): every byte has two small digits, in order.
func TestHex(t *testing.T) {
	if Hex(nil) != "" || Hex([]byte{}) != "" {
		t.Error("Hex of no bytes is not empty")
	}
	var all []byte
	for x := range 256 {
		all = append(all, byte(x))
		if got, want := Hex([]byte{byte(x)}), fmt.Sprintf("%02x", x); got != want {
			t.Errorf("Hex of %d = %q, want %q", x, got, want)
		}
	}
	if Hex(all) != hex.EncodeToString(all) {
		t.Errorf("Hex of all bytes = %s", Hex(all))
	}
}

// TestBytesOfHex (P2.1): Bytes reads back what Hex writes, in new memory.
func TestBytesOfHex(t *testing.T) {
	for n := range 300 {
		b := some(n, int64(n))
		got, e := Bytes(Hex(b))
		if e != api.OK || !bytes.Equal(got, b) {
			t.Errorf("Bytes(Hex(%x)) = %x, %d", b, got, e)
		}
	}
	for x := range 256 {
		got, e := Bytes(fmt.Sprintf("%02x", x))
		if e != api.OK || len(got) != 1 || got[0] != byte(x) {
			t.Errorf("Bytes of %02x = %x, %d", x, got, e)
		}
	}
	first, _ := Bytes("00ff")
	first[0], first[1] = 7, 7
	if again, e := Bytes("00ff"); e != api.OK || again[0] != 0 || again[1] != 255 {
		t.Error("a result of Bytes was handed out twice")
	}
}

// TestBytesNotHex (P2.1, R2): a text that is no bytes' Hex.
func TestBytesNotHex(t *testing.T) {
	texts := []string{"a", "0", "000", "0ff", "abc", "0F", "F0", "FF", "aB", "0g", "g0", "zz", "0x", "0x00", " ", "  ", " 00", "00 ", "0 ", " 0",
		"0\n", "\x000", "+1", "-1", "0_", "é", "０", "0é", "ﬀﬀ", "\xff\xff", "00ff0G", "G0ff00", "00ffg", strings.Repeat("0", 999), strings.Repeat("0", 998) + "0A"}
	for x := range 256 {
		if !strings.Contains("0123456789abcdef", string(rune(x))) {
			texts = append(texts, string([]byte{byte(x), '0'}), string([]byte{'0', byte(x)}), string([]byte{'1', '2', '3', byte(x)}))
		}
	}
	for _, s := range texts {
		if b, e := Bytes(s); e != api.ErrForm || len(b) != 0 {
			t.Errorf("Bytes(%q) = %x, %d", s, b, e)
		}
	}
}

// TestShort (P2.1): the first eight bytes of the digest, the highest first.
func TestShort(t *testing.T) {
	if got := Short([]byte("abc")); got != 0xba7816bf8f01cfea {
		t.Errorf("Short(abc) = %x", got)
	}
	if got := Short(nil); got != 0xe3b0c44298fc1c14 {
		t.Errorf("Short(nil) = %x", got)
	}
	for n := range 300 {
		b := some(n, int64(n)+1)
		d := sha256.Sum256(b)
		if got, want := Short(b), binary.BigEndian.Uint64(d[:8]); got != want {
			t.Errorf("Short of %d bytes = %x, want %x", n, got, want)
		}
	}
}
