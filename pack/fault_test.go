package pack

import (
	"errors"
	"testing"

	"herdsman/api"
)

// TestFaultsTellWhatAndWhere: within a run 0 is asked first, then beyond, then alike; each with the byte where it is.
func TestFaultsTellWhatAndWhere(t *testing.T) {
	for _, c := range []struct {
		b        []byte
		of       error
		at, code int
	}{
		{nil, errEnd, 0, api.ErrShort},
		{[]byte{0}, errEnd, 1, api.ErrShort},
		{[]byte{1, 0, 5, 5}, errEnd, 4, api.ErrShort},
		{[]byte{2, 9}, errEnd, 2, api.ErrShort},
		{[]byte{2, 0, 5}, errEnd, 3, api.ErrShort},
		{[]byte{2, 0, 5, 0}, errEnd, 4, api.ErrShort},
		{[]byte{3, 0, 0, 0, 0}, errNoForm, 0, api.ErrForm},
		{[]byte{0, 0}, errZero, 1, api.ErrForm},
		{[]byte{1, 5, 5, 0, 0}, errZero, 3, api.ErrForm},
		{[]byte{1, 0, 5, 5, 5}, errZero, 1, api.ErrForm},
		{[]byte{2, 0, 5, 9, 0}, errZero, 4, api.ErrForm},
		{[]byte{2, 0, 5, 9, 5}, errBeyond, 3, api.ErrForm},
		{[]byte{2, 9, 5}, errBeyond, 1, api.ErrForm},
		{[]byte{2, 0, 5, 3, 6}, errBeyond, 3, api.ErrForm},
		{[]byte{2, 0, 5, 0, 5}, errAgain, 4, api.ErrForm},
		{[]byte{1, 5, 5, 5, 5}, errWasteful, 0, api.ErrForm},
		{[]byte{2, 1, 5, 1, 6}, errWasteful, 0, api.ErrForm},
	} {
		_, _, err := readTile(c.b, 2, 2)
		var f *fault
		if !errors.As(err, &f) || !errors.Is(err, c.of) || f.at != c.at || f.code != c.code || codeOf(err) != c.code {
			t.Errorf("%v: %v; not %v, at byte %d, code %d", c.b, err, c.of, c.at, c.code)
		}
		if err != nil && errors.Unwrap(err) != c.of {
			t.Errorf("%v: wraps %v", c.b, errors.Unwrap(err))
		}
	}
	if err := faultAt(7, errZero); err.Error() != "a cost of 0, at byte 7" {
		t.Error(err)
	}
	if codeOf(nil) != api.OK {
		t.Error("nothing went wrong, and yet there is a code")
	}
}
