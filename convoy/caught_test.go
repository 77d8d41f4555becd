package convoy

import (
	"testing"

	"convoy/api"
	"convoy/scripts"
)

func TestCaught(t *testing.T) {
	for _, c := range []struct {
		thrown any
		e      api.Errno
		at     int
	}{
		{scripts.Fault{Errno: api.ErrShort, Place: 7}, api.ErrShort, 7},
		{scripts.Fault{Errno: api.ErrForm, Place: 0}, api.ErrForm, 0},
		{"something else", api.ErrForm, 0},
	} {
		read := func(string) []api.Op { panic(c.thrown) }
		if l, e, at := caught(read, ""); l != nil || e != c.e || at != c.at {
			t.Errorf("%v: %+v, %d, %d", c.thrown, l, e, at)
		}
	}
}
