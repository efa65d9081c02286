package seal

import (
	"bytes"
	"crypto/hmac"
	"crypto/sha256"
	"encoding/hex"
	"math/rand"
	"slices"
	"strings"
	"testing"

	"lychgate/digest"
)

// some returns n bytes that seed varies.
func some(n int, seed int64) []byte {
	b := make([]byte, n)
	rand.New(rand.NewSource(seed)).Read(b)
	return b
}

// reference is the seal as Go's library makes it.
func reference(key, b []byte) [32]byte {
	h := hmac.New(sha256.New, key)
	h.Write(b)
	return [32]byte(h.Sum(nil))
}

// join returns a new slice of the bytes of the parts.
func join(parts ...[]byte) []byte { return slices.Concat(parts...) }

func hexOf(d [32]byte) string { return hex.EncodeToString(d[:]) }

// knownSeals are the test cases of RFC 4231 with whole results, among them the
// chapter's example, and the seal of no bytes with no key.
func knownSeals() []struct {
	key, b []byte
	want   string
} {
	var counted []byte
	for i := range 25 {
		counted = append(counted, byte(i+1))
	}
	long := bytes.Repeat([]byte{0xaa}, 131)
	return []struct {
		key, b []byte
		want   string
	}{
		{bytes.Repeat([]byte{0x0b}, 20), []byte("Hi There"), "b0344c61d8db38535ca8afceaf0bf12b881dc200c9833da726e9376c2e32cff7"},
		{[]byte("Jefe"), []byte("what do ya want for nothing?"), "5bdcc146bf60754e6a042426089575c75a003f089d2739839dec58b964ec3843"},
		{bytes.Repeat([]byte{0xaa}, 20), bytes.Repeat([]byte{0xdd}, 50), "773ea91e36800e46854db8ebd09181a72959098b3ef8c122d9635514ced565fe"},
		{counted, bytes.Repeat([]byte{0xcd}, 50), "82558a389a443c0ea4cc819899f2083a85f0faa3e578f8077a2e3ff46729665b"},
		{long, []byte("Test Using Larger Than Block-Size Key - Hash Key First"), "60e431591ee0b67f0d8a26aacbf5b77f8e0bc6213728c5140546040f0ee37f54"},
		{long, []byte("This is a test using a larger than block-size key and a larger than block-size data. The key needs to be hashed before being used by the HMAC algorithm."), "9b09ffa71b942fcb27635fbcd5b0e944bfdc63644f0713938a7f51535c3a35e2"},
		{nil, nil, "b613679a0814d9ec772f95d778c35fc5ff1697c493715653c6c712144292c5ad"},
	}
}

// TestKnown (P3.1): Of and Header of known keys and bytes; such a header fits.
func TestKnown(t *testing.T) {
	for _, c := range knownSeals() {
		if got := hexOf(Of(c.key, c.b)); got != c.want {
			t.Errorf("Of(%x, %q) = %s, want %s", c.key, c.b, got, c.want)
		}
		if got := Header(c.key, c.b); got != "sha256="+c.want {
			t.Errorf("Header(%x, %q) = %s, want sha256=%s", c.key, c.b, got, c.want)
		}
		if !Fits(c.key, c.b, "sha256="+c.want) {
			t.Errorf("the header of %q with %x does not fit", c.b, c.key)
		}
	}
}

// TestOfLengths (P3.1): keys of every length past two blocks, with bytes
// whose lengths lie around the ends of blocks.
func TestOfLengths(t *testing.T) {
	for k := range 140 {
		for _, n := range []int{0, 1, 31, 32, 54, 55, 56, 63, 64, 65, 119, 120, 128, 1000} {
			key, b := some(k, int64(k)), some(n, int64(1000+n))
			if Of(key, b) != reference(key, b) {
				t.Errorf("Of is wrong for a key of %d bytes and %d bytes", k, n)
			}
		}
	}
	for _, fill := range []byte{0, 54, 92, 54 ^ 92, 255} {
		for _, k := range []int{1, 32, 63, 64, 65, 300} {
			key, b := bytes.Repeat([]byte{fill}, k), bytes.Repeat([]byte{fill}, 70)
			if Of(key, b) != reference(key, b) {
				t.Errorf("Of is wrong for a key of %d bytes %d", k, fill)
			}
		}
	}
	if key, b := some(5000, 1), some(1<<17, 2); Of(key, b) != reference(key, b) {
		t.Error("Of is wrong for a long key and many bytes")
	}
}

// TestNothing (P3.1): nil is no bytes, as a key and as what is sealed.
func TestNothing(t *testing.T) {
	b, none := []byte("b"), []byte{}
	if Of(nil, b) != Of(none, b) || Of(nil, b) != reference(nil, b) {
		t.Error("a nil key is not sealed with as no bytes")
	}
	if Of(b, nil) != Of(b, none) || Of(b, nil) != reference(b, nil) {
		t.Error("nil is not sealed as no bytes")
	}
	if Header(nil, nil) != "sha256=b613679a0814d9ec772f95d778c35fc5ff1697c493715653c6c712144292c5ad" {
		t.Error("the header of no bytes with no key is wrong")
	}
	if !Fits(nil, nil, Header(none, none)) {
		t.Error("the header of no bytes with no key does not fit")
	}
}

// TestLongKey (P3.2): a key of more than 64 bytes is equivalent to its digest
// in every function; a key of 64 bytes or fewer is not.
func TestLongKey(t *testing.T) {
	b, parts := []byte("bytes"), [][]byte{[]byte("a"), nil, []byte("bc")}
	for _, n := range []int{0, 1, 31, 32, 33, 63, 64, 65, 66, 127, 128, 129, 1000} {
		key := some(n, int64(n))
		d := digest.Of(key)
		same := n > 64
		for _, c := range []struct {
			name string
			same bool
		}{
			{"Of", Of(key, b) == Of(d[:], b)},
			{"Header", Header(key, b) == Header(d[:], b)},
			{"Fits", Fits(d[:], b, Header(key, b))},
			{"Fits of the digest's header", Fits(key, b, Header(d[:], b))},
			{"Key", bytes.Equal(Key(key, "pager"), Key(d[:], "pager"))},
			{"Chain", Chain(key, parts) == Chain(d[:], parts)},
		} {
			if c.same != same {
				t.Errorf("%s with a key of %d bytes and with its digest: same %v, want %v", c.name, n, c.same, same)
			}
		}
	}
}

// TestPaddedKey (P3.1): bytes 0 behind a key change nothing up to 64 bytes,
// since the key is padded with them, and do so beyond.
func TestPaddedKey(t *testing.T) {
	key, b := []byte("key"), []byte("b")
	for n := 3; n <= 70; n++ {
		padded := join(key, make([]byte, n-3))
		if same := Of(padded, b) == Of(key, b); same != (n <= 64) {
			t.Errorf("a key padded to %d bytes seals the same: %v", n, same)
		}
	}
}

// TestFitsOnly (P3.2): a header fits neither other bytes nor another key.
func TestFitsOnly(t *testing.T) {
	for _, n := range []int{1, 5, 63, 64, 65, 130} {
		key, b := some(n, 3), some(n, 4)
		h := Header(key, b)
		if !Fits(key, b, h) {
			t.Errorf("a header of %d bytes does not fit what it was made from", n)
		}
		for i := range 8 * n {
			other := slices.Clone(key)
			other[i/8] ^= 1 << (i % 8)
			if Fits(other, b, h) {
				t.Errorf("a header fits a key of %d bytes that differs in bit %d", n, i)
			}
			other = slices.Clone(b)
			other[i/8] ^= 1 << (i % 8)
			if Fits(key, other, h) {
				t.Errorf("a header fits %d bytes that differ in bit %d", n, i)
			}
		}
		if Fits(key, b[1:], h) || Fits(key, b[:n-1], h) || Fits(key, join(b, []byte{0}), h) || Fits(key, join([]byte{0}, b), h) || Fits(key, nil, h) {
			t.Errorf("a header of %d bytes fits fewer or more of them", n)
		}
		if Fits(key[1:], b, h) || Fits(key[:n-1], b, h) || Fits(join(key, []byte{1}), b, h) || Fits(nil, b, h) || Fits(b, key, h) {
			t.Errorf("a header fits another key than that of %d bytes", n)
		}
	}
}

// TestFitsNoOther (P3.2): no header that differs in a sign, in its length or
// in the case of its letters fits.
func TestFitsNoOther(t *testing.T) {
	key, b := []byte("Jefe"), []byte("what do ya want for nothing?")
	h := Header(key, b)
	for i := range len(h) {
		for x := range 256 {
			other := []byte(h)
			other[i] = byte(x)
			if got := Fits(key, b, string(other)); got != (byte(x) == h[i]) {
				t.Fatalf("sign %d replaced by %q: Fits is %v", i, byte(x), got)
			}
		}
		if Fits(key, b, h[:i]) || Fits(key, b, h[i+1:]) || Fits(key, b, h[:i]+h[i+1:]) || Fits(key, b, h[:i]+"0"+h[i:]) {
			t.Errorf("a header that is shorter or longer at sign %d fits", i)
		}
	}
	text := strings.TrimPrefix(h, "sha256=")
	seal := Of(key, b)
	for _, other := range []string{
		"", "sha256=", "=", text, "sha256:" + text, "sha1=" + text, "SHA256=" + text, "Sha256=" + text,
		strings.ToUpper(h), "sha256=" + strings.ToUpper(text), h + " ", " " + h, h + "\n", h + "\x00", h + "0", h + h, "sha256=" + h,
		"sha256=" + string(seal[:]), strings.Repeat("0", len(h)), strings.Repeat("\x00", len(h)), "sha256=" + strings.Repeat("0", 64),
		strings.Repeat("s", 1<<16),
	} {
		if Fits(key, b, other) {
			t.Errorf("the header %.80q fits", other)
		}
	}
}

// TestFitsTwoDifferences (P3.2): differences that cancel each other out in a
// sum or in an XOR of all signs are still differences.
func TestFitsTwoDifferences(t *testing.T) {
	key, b := []byte("k"), []byte("b")
	h := Header(key, b)
	for i := range len(h) {
		for j := range i {
			same, swapped := []byte(h), []byte(h)
			same[i] ^= 1
			same[j] ^= 1
			swapped[i], swapped[j] = h[j], h[i]
			if Fits(key, b, string(same)) || Fits(key, b, string(swapped)) != (h[i] == h[j]) {
				t.Errorf("a header with differences at %d and %d fits", j, i)
			}
		}
	}
}

// TestKey (P3.1): a name's key is the seal of a byte 0 and the name.
func TestKey(t *testing.T) {
	for _, n := range []int{0, 1, 32, 63, 64, 65, 200} {
		master := some(n, int64(n))
		for _, name := range []string{"", "a", "pager", "\x00", "\x00a", "é", "\xff\xfe", strings.Repeat("long", 50)} {
			want := reference(master, []byte("\x00"+name))
			if got := Key(master, name); !bytes.Equal(got, want[:]) {
				t.Errorf("Key with %d bytes for %q = %x, want %x", n, name, got, want)
			}
		}
	}
	if got := hex.EncodeToString(Key(nil, "")); got != hexOf(Of(nil, []byte{0})) {
		t.Errorf("Key(nil, \"\") = %s", got)
	}
	if bytes.Equal(Key([]byte("m"), "a"), Key([]byte("m"), "b")) || bytes.Equal(Key([]byte("m"), "a"), Key([]byte("n"), "a")) {
		t.Error("two names or two masters have one key")
	}
}

// chained is Chain as the chapter says it.
func chained(key []byte, l [][]byte) [32]byte {
	if len(l) == 0 {
		return reference(key, nil)
	}
	d := chained(key, l[:len(l)-1])
	return reference(key, join(d[:], l[len(l)-1]))
}

// TestChain (P3.1): lists of no part, one and more, parts without bytes among them.
func TestChain(t *testing.T) {
	x, y, none := []byte("x"), some(100, 9), []byte{}
	lists := [][][]byte{
		nil, {}, {x}, {y}, {none}, {nil}, {nil, nil}, {none, x}, {x, none}, {x, nil, y}, {x, y}, {y, x},
		{x, x}, {[]byte("xx")}, {y[:32]}, {y[:32], y[32:]}, {x, y, x, y, x, y, x},
	}
	seen := map[[32]byte]int{}
	for _, k := range []int{0, 1, 64, 65} {
		key := some(k, int64(k))
		for i, l := range lists {
			if got, want := Chain(key, l), chained(key, l); got != want {
				t.Errorf("Chain of list %d with a key of %d bytes = %x, want %x", i, k, got, want)
			}
		}
	}
	for i, l := range lists {
		d := Chain(x, l)
		if j, there := seen[d]; there && !sameParts(l, lists[j]) {
			t.Errorf("lists %d and %d have one chain", j, i)
		}
		seen[d] = i
	}
	if Chain(x, nil) != Of(x, nil) || Chain(x, [][]byte{nil}) == Chain(x, nil) {
		t.Error("a part without bytes is not counted as a part")
	}
	long := make([][]byte, 3000)
	if Chain(x, long) != chained(x, long) {
		t.Error("Chain of a long list is wrong")
	}
}

func sameParts(a, b [][]byte) bool { return slices.EqualFunc(a, b, bytes.Equal) }

// TestMemory (R4): arguments stay as they are, also behind their end, and are
// not kept; results are new.
func TestMemory(t *testing.T) {
	for _, n := range []int{3, 64, 65, 100} {
		whole := some(400, 7)
		before := slices.Clone(whole)
		key, b, part := whole[0:n], whole[100:100+n], whole[200:200+n]
		l := [][]byte{part, b}
		h, c := Header(key, b), Chain(key, l)
		k := Key(key, "pager")
		want := slices.Clone(k)
		Fits(key, b, h)
		if !bytes.Equal(whole, before) || !sameParts(l, [][]byte{before[200 : 200+n], before[100 : 100+n]}) {
			t.Fatal("an argument was changed")
		}
		again := Key(key, "pager")
		clear(again[:cap(again)])
		if !bytes.Equal(k, want) || !bytes.Equal(Key(key, "pager"), want) {
			t.Error("two keys share memory")
		}
		clear(whole)
		if !bytes.Equal(k, want) {
			t.Error("a key shares memory with its master")
		}
		if Header(before[0:n], before[100:100+n]) != h || Chain(before[0:n], [][]byte{before[200 : 200+n], before[100 : 100+n]}) != c {
			t.Error("a result hangs on an earlier call")
		}
	}
}
