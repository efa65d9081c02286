package word

import (
	"math/rand"
	"regexp"
	"slices"
	"strconv"
	"strings"
	"testing"

	"lychgate/api"
)

var (
	modelNames  = regexp.MustCompile(`\A[a-z_][a-z0-9_]{0,11}(,[a-z_][a-z0-9_]{0,11})*\z`)
	modelNumber = regexp.MustCompile(`\A(0|[1-9][0-9]{0,8})\z`)
)

// namesLike holds Names of s against the chapter's form, and reports whether s
// contains names, or none.
func namesLike(t *testing.T, s string) bool {
	t.Helper()
	var want []string
	ok := s == "-"
	if !ok {
		want = strings.Split(s, ",")
		sorted := slices.Compact(slices.Sorted(slices.Values(want)))
		ok = modelNames.MatchString(s) && len(sorted) == len(want)
	}
	got, e := Names(s)
	if ok && (e != api.OK || !slices.Equal(got, want)) || !ok && (e != api.ErrForm || len(got) != 0) {
		t.Errorf("Names(%.80q) is %.80q, %d", s, got, e)
	}
	if ok && NamesText(got) != s {
		t.Errorf("NamesText(%.80q) is %.80q", got, NamesText(got))
	}
	return ok
}

// TestNames (P7.1): no name, one and several.
func TestNames(t *testing.T) {
	for s, want := range map[string][]string{
		"-": nil, "a": {"a"}, "_": {"_"}, "host": {"host"}, "a,b": {"a", "b"}, "b,a": {"b", "a"}, "a,b_1": {"a", "b_1"}, "c,a,b": {"c", "a", "b"}, "a,aa,aaa": {"a", "aa", "aaa"}, "_,__": {"_", "__"},
		"abcdefghijkl": {"abcdefghijkl"}, "abcdefghijkl,abcdefghijkm": {"abcdefghijkl", "abcdefghijkm"},
		"a,b,c,d,e,f,g,h,i,j,k,l,m,n": {"a", "b", "c", "d", "e", "f", "g", "h", "i", "j", "k", "l", "m", "n"},
	} {
		if got, e := Names(s); e != api.OK || !slices.Equal(got, want) {
			t.Errorf("Names(%q) is %q, %d", s, got, e)
		}
	}
}

// TestNamesOfNone (P7.1): texts that are not names separated by commas, or
// have a name twice.
func TestNamesOfNone(t *testing.T) {
	for _, s := range []string{
		"", ",", ",,", "a,", ",a", "a,,b", ",a,b", "a,b,", "a,b,,",
		"a,a", "a,b,a", "a,a,b", "b,a,a", "a,b,c,d,b", "host,sev,host", "_,_",
		"--", "-,", ",-", "-,-", "-,a", "a,-", "a,-,b", "-a", "a-", " -", "- ", "-\n",
		"A", "1", "1a", "a b", "a, b", "a ,b", " a", "a ", "a\tb", "a;b", "a.b", "a,B", "a,1", "a,b c", "é", "a,é", "a\n", "a,b\n", "a\x00", "\xff", `"a"`, `a,"b"`,
		"abcdefghijklm", "a,abcdefghijklm", "abcdefghijklm,a", strings.Repeat("a", 1<<16),
	} {
		if got, e := Names(s); e != api.ErrForm || len(got) != 0 {
			t.Errorf("Names(%.80q) is %q, %d", s, got, e)
		}
	}
}

// TestNamesOfShortTexts (P7.1): all short texts, and every byte within names.
func TestNamesOfShortTexts(t *testing.T) {
	found := 0
	eachText("ab1-,_", 6, func(s string) {
		if namesLike(t, s) {
			found++
		}
	})
	eachText("a,-b", 8, func(s string) {
		if namesLike(t, s) {
			found++
		}
	})
	if found < 1000 {
		t.Error(found, "texts of names")
	}
	for c := range 256 {
		one := string([]byte{byte(c)})
		for _, around := range [][2]string{{"", ""}, {"a", ""}, {"", "a"}, {"a", "b"}, {"a,", ""}, {"", ",b"}, {"a,", ",b"}, {"a,b", ""}, {"-", ""}, {"", "-"}} {
			namesLike(t, around[0]+one+around[1])
		}
	}
}

// TestNamesOfRandomTexts (P7.1): many names, with one of them twice or not.
func TestNamesOfRandomTexts(t *testing.T) {
	r := rand.New(rand.NewSource(10))
	found := 0
	for range 5000 {
		l := make([]string, 1+r.Intn(12))
		for i := range l {
			l[i] = string("abcdefgh_"[r.Intn(9)]) + someText(r, "abc012_", 3)
		}
		if namesLike(t, strings.Join(l, ",")) {
			found++
		}
	}
	if found < 500 || found > 4500 {
		t.Error(found, "texts of names")
	}
}

// TestNamesText (P7.1): any texts, whether they are names or not.
func TestNamesText(t *testing.T) {
	for _, c := range []struct {
		l    []string
		want string
	}{
		{nil, "-"}, {[]string{}, "-"}, {[]string{"a"}, "a"}, {[]string{"a", "b"}, "a,b"}, {[]string{"b", "a"}, "b,a"}, {[]string{"a", "b_1", "c"}, "a,b_1,c"},
		{[]string{""}, ""}, {[]string{"", ""}, ","}, {[]string{"a", ""}, "a,"}, {[]string{"a", "a"}, "a,a"}, {[]string{"-"}, "-"}, {[]string{"-", "a"}, "-,a"}, {[]string{"a,b", "c"}, "a,b,c"}, {[]string{"A b", "\xff\n"}, "A b,\xff\n"},
	} {
		if got := NamesText(c.l); got != c.want {
			t.Errorf("NamesText(%q) is %q", c.l, got)
		}
	}
}

// TestNumber (P7.1): numbers of 1 to 9 digits.
func TestNumber(t *testing.T) {
	for s, want := range map[string]int{
		"0": 0, "1": 1, "7": 7, "9": 9, "10": 10, "19": 19, "90": 90, "99": 99, "100": 100, "101": 101, "1000": 1000, "65536": 65536, "99999999": 99999999, "100000000": 100000000, "123456789": 123456789, "987654321": 987654321, "999999999": 999999999, "900000000": 900000000,
	} {
		if got, e := Number(s); got != want || e != api.OK {
			t.Errorf("Number(%q) is %d, %d", s, got, e)
		}
	}
	r := rand.New(rand.NewSource(11))
	for i := range 20000 {
		want := i
		if i >= 5000 {
			want = r.Intn(1000000000)
		}
		if got, e := Number(strconv.Itoa(want)); got != want || e != api.OK {
			t.Errorf("Number of the text of %d is %d, %d", want, got, e)
		}
	}
}

// TestNumberOfNone (P7.1): leading zeros, too many digits, signs and other
// bytes.
func TestNumberOfNone(t *testing.T) {
	for _, s := range []string{
		"", "00", "01", "000", "007", "010", "0123456789", "00000000", "000000000", "0000000000", "012345678",
		"1000000000", "1234567890", "9999999999", "18446744073709551616", strings.Repeat("9", 1000), strings.Repeat("1", 1<<20),
		"-", "+", "-1", "+1", "-0", "+0", "1-", "1+", "--1", " 1", "1 ", "1 2", "\t1", "1\n", "1.0", "1.", ".1", "1e3", "1_0", "1,0", "0x1", "0b1", "0o7", "x", "a", "1a", "a1", "1a2", "/", ":", "1/", "1:", "é", "١", "1\x00", "\x00", "\xb1", "12345678a", "a12345678", "１",
	} {
		if got, e := Number(s); got != 0 || e != api.ErrForm {
			t.Errorf("Number(%.80q) is %d, %d", s, got, e)
		}
	}
}

// numberLike holds Number of s against the chapter's form.
func numberLike(t *testing.T, s string) {
	t.Helper()
	want, ok := 0, modelNumber.MatchString(s)
	if ok {
		want, _ = strconv.Atoi(s)
	}
	if got, e := Number(s); got != want || (e == api.OK) != ok || !ok && e != api.ErrForm {
		t.Errorf("Number(%q) is %d, %d", s, got, e)
	}
}

// TestNumberOfShortTexts (P7.1): all short texts of some digits and signs, and
// every byte at each place.
func TestNumberOfShortTexts(t *testing.T) {
	eachText("019-+ ", 6, func(s string) { numberLike(t, s) })
	eachText("01", 11, func(s string) { numberLike(t, s) })
	for c := range 256 {
		one := string([]byte{byte(c)})
		for _, around := range [][2]string{{"", ""}, {"1", ""}, {"", "1"}, {"1", "2"}, {"0", ""}, {"", "0"}, {"12345678", ""}, {"", "12345678"}, {"1234", "5678"}, {"123456789", ""}, {"", "123456789"}} {
			numberLike(t, around[0]+one+around[1])
		}
	}
}

// TestManyNames (T0): long texts are read to their end, a name that is there
// twice is found however far apart its two places are.
func TestManyNames(t *testing.T) {
	var l []string
	for i := range 1 << 18 {
		l = append(l, "n"+strconv.Itoa(i))
	}
	s := strings.Join(l, ",")
	if got, e := Names(s); e != api.OK || !slices.Equal(got, l) || NamesText(got) != s {
		t.Error("many names:", len(got), e)
	}
	if got, e := Names(s + ",n0"); e != api.ErrForm || len(got) != 0 {
		t.Error("many names, one of them twice:", len(got), e)
	}
	if got, e := Names(strings.Repeat(",", 1<<20)); e != api.ErrForm || len(got) != 0 {
		t.Error("many commas:", len(got), e)
	}
}
