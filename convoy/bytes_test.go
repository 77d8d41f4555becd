package convoy_test

import (
	"slices"
	"strings"
	"testing"

	"convoy/api"
	"convoy/convoy"
)

var oneOfEach = []api.Op{
	{Kind: api.Mkdir, Path: "d", Mode: 511},
	{Kind: api.Rmdir, Path: "d/e"},
	{Kind: api.Unlink, Path: "~1"},
	{Kind: api.Write, Path: "d/f", Id: 9999, Size: 100, Mode: 256},
	{Kind: api.Copy, Path: "a", To: "~0", Mode: 1},
	{Kind: api.Rename, Path: "a", To: "b"},
	{Kind: api.Chmod, Path: "a", Mode: 300},
}

const oneOfEachBytes = "\x00\x07" +
	"\x01\x01d\x01\xff" +
	"\x02\x03d/e" +
	"\x03\x02~1" +
	"\x04\x03d/f\x27\x0f\x64\x01\x00" +
	"\x05\x01a\x02~0\x00\x01" +
	"\x06\x01a\x01b" +
	"\x07\x01a\x01\x2c"

func TestEncode(t *testing.T) {
	if got, e := convoy.Encode(oneOfEach); e != api.OK || got != oneOfEachBytes {
		t.Errorf("Encode = %q, %d", got, e)
	}
	if got, e := convoy.Encode([]api.Op{{Kind: api.Rename, Path: "a", To: "~0"}}); e != api.OK || got != string([]byte{0, 1, 6, 1, 97, 2, 126, 48}) {
		t.Errorf("the document's: %q, %d", got, e)
	}
	if got, e := convoy.Encode(nil); e != api.OK || got != "\x00\x00" {
		t.Errorf("of no operation: %q, %d", got, e)
	}
}

func TestEncodeNoScript(t *testing.T) {
	for _, o := range wrongOps() {
		for _, l := range [][]api.Op{{o}, {oneOfEach[0], o}, {o, oneOfEach[0]}} {
			if got, e := convoy.Encode(l); e != api.ErrScript || got != "" {
				t.Errorf("Encode(%+v) = %q, %d", l, got, e)
			}
		}
	}
	if got, e := convoy.Encode(slices.Repeat(oneOfEach[:1], api.MaxOps+1)); e != api.ErrScript || got != "" {
		t.Errorf("too many: %q, %d", got, e)
	}
}

func TestBytesThereAndBack(t *testing.T) {
	samples := sampleOps()
	for i := range samples {
		// Scripts of all lengths up to the most, with every operation at their front.
		bytesThereAndBack(t, samples[i:min(i+i%(api.MaxOps+1), len(samples))])
	}
	bytesThereAndBack(t, nil)
	bytesThereAndBack(t, samples[:api.MaxOps])
}

func bytesThereAndBack(t *testing.T, l []api.Op) {
	t.Helper()
	s, e := convoy.Encode(l)
	if e != api.OK {
		t.Fatalf("Encode(%+v): %d", l, e)
	}
	if back, e, at := convoy.Decode(s); e != api.OK || at != 0 || !slices.Equal(back, l) {
		t.Fatalf("Decode(Encode(%+v)) = %+v, %d, %d", l, back, e, at)
	}
}

func wantDecode(t *testing.T, s string, e api.Errno, at int) {
	t.Helper()
	if l, gotE, gotAt := convoy.Decode(s); gotE != e || gotAt != at || len(l) != 0 {
		t.Errorf("Decode(%q) = %+v, %d, %d, want %d, %d", s, l, gotE, gotAt, e, at)
	}
}

func TestDecodeForm(t *testing.T) {
	long := strings.Repeat("a", 255)
	for _, c := range []struct {
		name, s string
		at      int
	}{
		{"behind no operation", "\x00\x00\x00", 2},
		{"behind the last operation", oneOfEachBytes + "x", len(oneOfEachBytes)},
		{"401 operations", "\x01\x91", 0},
		{"the most operations", "\xff\xff\x01", 0},
		{"Kind 0", "\x00\x01\x00\x01a", 2},
		{"Kind 8", "\x00\x01\x08\x01a", 2},
		{"Kind 255", "\x00\x01\xff\x01a", 2},
		{"an empty path", "\x00\x01\x02\x00", 3},
		{"no path", "\x00\x01\x02\x02a/", 3},
		{"a long path", "\x00\x01\x02\xff" + long, 3},
		{"a spare name with a letter", "\x00\x01\x02\x02~a", 3},
		{"a spare name for mkdir", "\x00\x01\x01\x02~1\x00\x00", 3},
		{"a spare name below", "\x00\x01\x02\x04a/~1", 3},
		{"To empty", "\x00\x01\x06\x01a\x00", 5},
		{"To no path", "\x00\x01\x05\x01a\x03~1x\x00\x00", 5},
		{"Mode 512 of mkdir", "\x00\x01\x01\x01a\x02\x00", 5},
		{"Mode 512 of copy", "\x00\x01\x05\x01a\x01b\x02\x00", 7},
		{"Mode 65535 of chmod", "\x00\x01\x07\x01a\xff\xff", 5},
		{"Id 0", "\x00\x01\x04\x01a\x00\x00\x00\x00\x00", 5},
		{"Id 10000", "\x00\x01\x04\x01a\x27\x10\x00\x00\x00", 5},
		{"Size 101", "\x00\x01\x04\x01a\x00\x01\x65\x00\x00", 7},
		{"Mode 512 of write", "\x00\x01\x04\x01a\x00\x01\x64\x02\x00", 8},
		{"in the second operation", "\x00\x02\x02\x01a\x00", 5},
		{"the first of two wrong things", "\x00\x01\x06\x01/\x01/\x00", 3},
	} {
		t.Run(c.name, func(t *testing.T) { wantDecode(t, c.s, api.ErrForm, c.at) })
	}
}

func TestDecodeShort(t *testing.T) {
	for i := range oneOfEachBytes {
		wantDecode(t, oneOfEachBytes[:i], api.ErrShort, i)
	}
	// What has begun and isn't all there is short, however wrong it would be.
	for _, s := range []string{"\xff", "\x00\x01\x02\xff/", "\x00\x01\x02\x02/", "\x00\x01\x01\x01a\xff", "\x00\x01\x04\x01a\xff", "\x00\x01\x01\x03~1", "\x00\x01"} {
		wantDecode(t, s, api.ErrShort, len(s))
	}
}

// There is just one way to write a script: bytes that can be read are those that are written.
func FuzzDecode(f *testing.F) {
	f.Add(oneOfEachBytes)
	for i := range oneOfEachBytes {
		for _, c := range []byte{0, 1, 2, 3, 4, 5, 6, 7, 8, 'a', '/', '~', '0', 255} {
			f.Add(oneOfEachBytes[:i] + string([]byte{c}) + oneOfEachBytes[i+1:])
			f.Add(oneOfEachBytes[:i] + string([]byte{c}) + oneOfEachBytes[i:])
		}
		f.Add(oneOfEachBytes[:i] + oneOfEachBytes[i+1:])
	}
	f.Fuzz(func(t *testing.T, s string) {
		l, e, at := convoy.Decode(s)
		switch {
		case e == api.OK:
			if back, e := convoy.Encode(l); e != api.OK || back != s || at != 0 {
				t.Errorf("Encode(Decode(%q)) = %q, %d", s, back, e)
			}
		case e == api.ErrShort:
			if at != len(s) || len(l) != 0 {
				t.Errorf("Decode(%q) = %+v, %d, %d", s, l, e, at)
			}
		case e != api.ErrForm || at < 0 || at >= len(s) || len(l) != 0:
			t.Errorf("Decode(%q) = %+v, %d, %d", s, l, e, at)
		}
	})
}
