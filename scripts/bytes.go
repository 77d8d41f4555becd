package scripts

import "convoy/api"

// Encode writes a script as bytes.
func Encode(l []api.Op) (string, api.Errno) {
	if !isScript(l) {
		return "", api.ErrScript
	}
	w := &byteWriter{}
	w.number(len(l), api.MaxOps)
	for _, o := range l {
		w.number(o.Kind, api.Chmod)
		writeOp(w, o)
	}
	return string(w.out), api.OK
}

// Decode reads a script's bytes; it panics with a Fault if they are wrong.
func Decode(s string) []api.Op {
	r := &byteReader{in: s}
	l := make([]api.Op, r.number(0, api.MaxOps))
	for i := range l {
		l[i] = readOp(r, r.number(api.Mkdir, api.Chmod))
	}
	if r.at < len(s) {
		panic(Fault{api.ErrForm, r.at})
	}
	return l
}

// width is how many bytes a number takes that may be as much as high.
func width(high int) int {
	if high > 255 {
		return 2
	}
	return 1
}

type byteWriter struct {
	out []byte
}

func (w *byteWriter) path(s string) {
	w.out = append(w.out, byte(len(s)))
	w.out = append(w.out, s...)
}

func (w *byteWriter) number(n, high int) {
	if width(high) == 2 {
		w.out = append(w.out, byte(n>>8))
	}
	w.out = append(w.out, byte(n))
}

type byteReader struct {
	in string
	at int
}

func (r *byteReader) path(spare bool) string {
	first := r.at
	s := r.take(int(r.take(1)[0]))
	if !isPlace(s, spare) {
		panic(Fault{api.ErrForm, first})
	}
	return s
}

func (r *byteReader) number(low, high int) int {
	first := r.at
	n := 0
	for range width(high) {
		n = n<<8 | int(r.take(1)[0])
	}
	if !within(n, low, high) {
		panic(Fault{api.ErrForm, first})
	}
	return n
}

func (r *byteReader) take(n int) string {
	if len(r.in)-r.at < n {
		panic(Fault{api.ErrShort, len(r.in)})
	}
	first := r.at
	r.at += n
	return r.in[first:r.at]
}
