package paths

import (
	"slices"
	"strings"
	"testing"
)

func TestEveryByteInAName(t *testing.T) {
	const allowed = "abcdefghijklmnopqrstuvwxyzABCDEFGHIJKLMNOPQRSTUVWXYZ0123456789._-"
	for c := range 256 {
		name := "a" + string([]byte{byte(c)}) + "b"
		want := strings.IndexByte(allowed, byte(c)) >= 0 || c == '/'
		if got := IsPath(name); got != want {
			t.Errorf("IsPath(%q) = %v, want %v", name, got, want)
		}
	}
}

func TestIsPath(t *testing.T) {
	for _, s := range []string{"a", "...", "a.", ".a", "..a", "-", "_", "12345678", "a/b/c/d/e/f", "12345678/12345678/12345678/12345678/12345678/12345678"} {
		if !IsPath(s) {
			t.Errorf("%q is a path", s)
		}
	}
	for _, s := range []string{"", ".", "..", "/", "//", "a/", "/a", "a//b", "a/.", "./a", "a/../b", "123456789", "a/123456789", "a/b/c/d/e/f/g", "a/b/c/d/e/f/", "~1", "a/~1", "~1/a", "a\n", "é", "a\x00", strings.Repeat("/", 1000000)} {
		if IsPath(s) {
			t.Errorf("%.20q is no path", s)
		}
	}
}

func TestIsSpare(t *testing.T) {
	for _, s := range []string{"~0", "~9", "~00", "~1234567"} {
		if !IsSpare(s) {
			t.Errorf("%q is a spare name", s)
		}
	}
	for _, s := range []string{"", "~", "1", "~~", "~a", "~1a", "~/", "~:", "~12345678", "~1/2", "a/~1", " ~1", "~-1", "1~"} {
		if IsSpare(s) {
			t.Errorf("%q is no spare name", s)
		}
	}
}

func TestParent(t *testing.T) {
	for path, want := range map[string]string{"a": "", "a/b": "a", "a/b/c": "a/b", "a.b/c-d": "a.b"} {
		if got := Parent(path); got != want {
			t.Errorf("Parent(%q) = %q, want %q", path, got, want)
		}
	}
}

func TestLast(t *testing.T) {
	for path, want := range map[string]string{"a": "a", "a/b": "b", "a/b/c": "c", "a.b/c-d": "c-d", "~0": "~0"} {
		if got := Last(path); got != want {
			t.Errorf("Last(%q) = %q, want %q", path, got, want)
		}
	}
}

func TestOrder(t *testing.T) {
	ordered := []string{"-", "A", "A/z", "B", "_", "a", "a/-", "a/b", "a/b/c", "a/b-", "a/b.c", "a/bc", "a-", "a-/b", "a.b", "a0", "aA", "ab", "b"}
	for i, a := range ordered {
		for j, b := range ordered {
			got := Compare(a, b)
			if got < 0 != (i < j) || got > 0 != (i > j) {
				t.Errorf("Compare(%q, %q) = %d", a, b, got)
			}
		}
	}
	if !slices.IsSortedFunc([]string{"a", "~0", "~00", "~01", "~1", "~10", "~2"}, Compare) {
		t.Error("spare names are ordered by their bytes")
	}
}

func TestSame(t *testing.T) {
	for _, c := range []struct {
		a, b string
		one  bool
	}{
		{"a", "A", true}, {"aZ/Mz", "Az/mZ", true}, {"a", "a", true}, {"a", "b", false}, {"a.b", "A.B", true}, {"az", "AZ", true},
		{"A", "a/", false}, {"a", "ab", false}, {"", "a", false}, {"a-", "a.", false}, {"[", "{", false}, {"@", "`", false}, {"_", "\x7f", false}, {"k", "\u212a", false},
	} {
		if got := Same(c.a, c.b, true); got != c.one {
			t.Errorf("%q and %q are one by folding: %v, want %v", c.a, c.b, got, c.one)
		}
		if got := Same(c.a, c.b, false); got != (c.a == c.b) {
			t.Errorf("%q and %q are one: %v", c.a, c.b, got)
		}
	}
}

func TestIsBelow(t *testing.T) {
	for _, c := range []struct {
		s, above    string
		fold, below bool
	}{
		{"a/b", "a", false, true}, {"a/b/c", "a", false, true}, {"a/b/c", "a/b", false, true}, {"a", "a", false, false}, {"a", "a/b", false, false},
		{"ab", "a", false, false}, {"ab/c", "a", false, false}, {"a.b", "a", true, false}, {"b/a", "a", false, false},
		{"A/b", "a", false, false}, {"A/b", "a", true, true}, {"a/B/c", "A/b", true, true}, {"A", "a", true, false}, {"AB/c", "a", true, false},
	} {
		if got := IsBelow(c.s, c.above, c.fold); got != c.below {
			t.Errorf("IsBelow(%q, %q, %v) = %v", c.s, c.above, c.fold, got)
		}
	}
}
