package convoy

import (
	"testing"

	"convoy/api"
	"convoy/scripts"
)

func TestCaught(t *testing.T) {
	for _, c := range []struct {
		thrown any
		e      api.Errno
		at     int
	}{
		{scripts.Fault{Errno: api.ErrShort, Place: 7}, api.ErrShort, 7},
		{scripts.Fault{Errno: api.ErrForm, Place: 0}, api.ErrForm, 0},
		{"something else", api.ErrForm, 0},
	} {
		if e, at := caught(func() { panic(c.thrown) }); e != c.e || at != c.at {
			t.Errorf("%v: %d, %d", c.thrown, e, at)
		}
	}
}
