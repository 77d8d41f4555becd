package scripts

import (
	"strconv"
	"strings"

	"convoy/api"
)

// Print writes a script as text.
func Print(l []api.Op) (string, api.Errno) {
	if !isScript(l) {
		return "", api.ErrScript
	}
	w := &lineWriter{}
	for _, o := range l {
		w.out.WriteString(needs[o.Kind].word)
		writeOp(w, o)
		w.out.WriteByte('\n')
	}
	return w.out.String(), api.OK
}

// Parse reads a script's text; it panics with a Fault if a line is wrong.
func Parse(s string) []api.Op {
	var l []api.Op
	for s != "" {
		line, rest, ended := strings.Cut(s, "\n")
		if !ended || len(l) == api.MaxOps {
			panic(Fault{api.ErrForm, len(l)})
		}
		l = append(l, parseLine(line, len(l)))
		s = rest
	}
	return l
}

func parseLine(line string, number int) api.Op {
	r := &lineReader{rest: line, line: number}
	o := readOp(r, r.kind())
	if r.rest != "" {
		panic(r.fault())
	}
	return o
}

type lineWriter struct {
	out strings.Builder
}

func (w *lineWriter) path(s string) {
	w.out.WriteByte(' ')
	w.out.WriteString(s)
}

func (w *lineWriter) number(n, high int) {
	w.path(strconv.Itoa(n))
}

type lineReader struct {
	rest string
	line int
}

func (r *lineReader) kind() int {
	w := r.word()
	for k := api.Mkdir; k <= api.Chmod; k++ {
		if needs[k].word == w {
			return k
		}
	}
	panic(r.fault())
}

func (r *lineReader) path(spare bool) string {
	s := r.field()
	if !isPlace(s, spare) {
		panic(r.fault())
	}
	return s
}

func (r *lineReader) number(low, high int) int {
	s := r.field()
	n, err := strconv.Atoi(s)
	// Atoi takes signs and leading zeros, too, which Print never makes.
	if err != nil || strconv.Itoa(n) != s || !within(n, low, high) {
		panic(r.fault())
	}
	return n
}

func (r *lineReader) field() string {
	if r.rest == "" {
		panic(r.fault())
	}
	// A word ends at a blank or with the line, so this is the blank ahead of the field.
	r.rest = r.rest[1:]
	return r.word()
}

func (r *lineReader) word() string {
	end := strings.IndexByte(r.rest, ' ')
	if end < 0 {
		end = len(r.rest)
	}
	w := r.rest[:end]
	r.rest = r.rest[end:]
	return w
}

func (r *lineReader) fault() Fault {
	return Fault{api.ErrForm, r.line}
}
