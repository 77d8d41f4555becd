package convoy_test

import (
	"slices"
	"strings"
	"testing"

	"convoy/api"
	"convoy/convoy"
)

const oneOfEachText = "mkdir d 511\n" +
	"rmdir d/e\n" +
	"unlink ~1\n" +
	"write d/f 9999 100 256\n" +
	"copy a ~0 1\n" +
	"rename a b\n" +
	"chmod a 300\n"

func TestPrint(t *testing.T) {
	if got, e := convoy.Print(oneOfEach); e != api.OK || got != oneOfEachText {
		t.Errorf("Print = %q, %d", got, e)
	}
	if got, e := convoy.Print([]api.Op{{Kind: api.Write, Path: "d/f", Id: 5, Size: 1}}); e != api.OK || got != "write d/f 5 1 0\n" {
		t.Errorf("the document's: %q, %d", got, e)
	}
	if got, e := convoy.Print(nil); e != api.OK || got != "" {
		t.Errorf("of no operation: %q, %d", got, e)
	}
}

func TestPrintNoScript(t *testing.T) {
	for _, o := range wrongOps() {
		for _, l := range [][]api.Op{{o}, {oneOfEach[0], o}, {o, oneOfEach[0]}} {
			if got, e := convoy.Print(l); e != api.ErrScript || got != "" {
				t.Errorf("Print(%+v) = %q, %d", l, got, e)
			}
		}
	}
	if got, e := convoy.Print(slices.Repeat(oneOfEach[:1], api.MaxOps+1)); e != api.ErrScript || got != "" {
		t.Errorf("too many: %q, %d", got, e)
	}
}

func TestTextThereAndBack(t *testing.T) {
	samples := sampleOps()
	for i := range samples {
		textThereAndBack(t, samples[i:min(i+i%(api.MaxOps+1), len(samples))])
	}
	textThereAndBack(t, nil)
	textThereAndBack(t, samples[:api.MaxOps])
}

func textThereAndBack(t *testing.T, l []api.Op) {
	t.Helper()
	s, e := convoy.Print(l)
	if e != api.OK {
		t.Fatalf("Print(%+v): %d", l, e)
	}
	if back, e, at := convoy.Parse(s); e != api.OK || at != 0 || !slices.Equal(back, l) {
		t.Fatalf("Parse(Print(%+v)) = %+v, %d, %d", l, back, e, at)
	}
}

func wantForm(t *testing.T, s string, line int) {
	t.Helper()
	if l, e, at := convoy.Parse(s); e != api.ErrForm || at != line || len(l) != 0 {
		t.Errorf("Parse(%.60q) = %+v, %d, %d, want line %d", s, l, e, at, line)
	}
}

func TestParseLines(t *testing.T) {
	for _, line := range []string{
		"", " ", "x", "x a", "rmdir", "rmdir ", "rmdir  a", " rmdir a", "rmdir a ", "rmdir\ta", "rmdir a\r", "Rmdir a", "RMDIR a", "rmdira", "rm a", "rmdir a b", "rmdir a 0", "2 a",
		"rmdir a/", "rmdir .", "rmdir ~", "rmdir ~x", "rmdir 123456789", "rmdir a/b/c/d/e/f/g", "rmdir a\x00", "rmdir \xff",
		"mkdir a", "mkdir ~1 0", "mkdir a 0 0", "mkdir a 512", "mkdir a -1", "mkdir a -0", "mkdir a +1", "mkdir a 01", "mkdir a 00", "mkdir a 0x1", "mkdir a 1_0", "mkdir a 1.0", "mkdir a 1e1", "mkdir a ", "mkdir a a", "mkdir a ١", "mkdir a 99999999999999999999", "mkdir a 18446744073709551616",
		"unlink", "unlink a b",
		"write a", "write a 1", "write a 1 1", "write a 0 1 1", "write a 10000 1 1", "write a 1 101 1", "write a 1 -1 1", "write a 1 1 512", "write a 1 1 1 1", "write a b 1 1 1",
		"copy a", "copy a b", "copy a 0", "copy a b 512", "copy a b 0 0", "copy a / 0",
		"rename a", "rename a b c", "rename a b 0", "rename a b/~1",
		"chmod a", "chmod a 512", "chmod a b 0",
	} {
		wantForm(t, line+"\n", 0)
		wantForm(t, "rmdir a\nrmdir b\n"+line+"\nrmdir c\n", 2)
	}
}

func TestParseEnds(t *testing.T) {
	if l, e, at := convoy.Parse(""); e != api.OK || at != 0 || len(l) != 0 {
		t.Errorf("of nothing: %+v, %d, %d", l, e, at)
	}
	wantForm(t, "rmdir a", 0)
	wantForm(t, "rmdir a\nrmdir b", 1)
	wantForm(t, "rmdir a\n\n", 1)
	wantForm(t, "rmdir a\n ", 1)
}

func TestParseMany(t *testing.T) {
	most := strings.Repeat("rmdir a\n", api.MaxOps)
	if l, e, at := convoy.Parse(most); e != api.OK || at != 0 || len(l) != api.MaxOps {
		t.Errorf("%d lines: %d, %d", api.MaxOps, e, at)
	}
	for _, more := range []string{"rmdir a\n", "rmdir a", "\n", "x", most} {
		wantForm(t, most+more, api.MaxOps)
	}
	wantForm(t, "rmdir a\nx\n"+most, 1)
}

// A text that can be read is one that Print makes.
func FuzzParse(f *testing.F) {
	f.Add(oneOfEachText)
	for i := range oneOfEachText {
		for _, c := range []byte(" \n\r\t0159-+_~/ax\x00\xff") {
			f.Add(oneOfEachText[:i] + string([]byte{c}) + oneOfEachText[i+1:])
			f.Add(oneOfEachText[:i] + string([]byte{c}) + oneOfEachText[i:])
		}
		f.Add(oneOfEachText[:i] + oneOfEachText[i+1:])
	}
	f.Fuzz(func(t *testing.T, s string) {
		l, e, at := convoy.Parse(s)
		switch {
		case e == api.OK:
			if back, e := convoy.Print(l); e != api.OK || back != s || at != 0 {
				t.Errorf("Print(Parse(%q)) = %q, %d", s, back, e)
			}
		case e != api.ErrForm || at < 0 || at > strings.Count(s, "\n") || len(l) != 0:
			t.Errorf("Parse(%q) = %+v, %d, %d", s, l, e, at)
		}
	})
}
