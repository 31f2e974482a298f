package atlas

import (
	"errors"
	"testing"

	"herdsman/api"
)

// TestFaultsInATileTellItsSector: the first tile that goes wrong is told, and its code is found beneath its sector.
func TestFaultsInATileTellItsSector(t *testing.T) {
	for _, c := range []struct {
		b            []byte
		sector, code int
	}{
		{[]byte{1, 0, 1, 0}, 0, api.ErrShort},
		{[]byte{1, 0, 1, 0, 0}, 0, api.ErrShort},
		{[]byte{1, 0, 1, 0, 3}, 0, api.ErrForm},
		{[]byte{1, 0, 1, 0, 0, 0, 9}, 0, api.ErrForm},
		{[]byte{17, 0, 2, 0, 0, 3}, 1, api.ErrShort},
		{[]byte{17, 0, 2, 0, 0, 3, 1, 8}, 1, api.ErrShort},
		{[]byte{17, 0, 2, 0, 0, 3, 1, 8, 8}, 1, api.ErrForm},
		{[]byte{17, 0, 17, 0, 0, 3, 0, 3, 0, 3}, 3, api.ErrShort},
		{[]byte{17, 0, 17, 0, 0, 3, 0, 3, 0, 3, 1, 4}, 3, api.ErrForm},
		{[]byte{17, 0, 17, 0, 0, 3, 9, 3, 9, 3, 0}, 1, api.ErrForm},
	} {
		m, err := readMap(c.b)
		var f *tileFault
		if !errors.As(err, &f) || f.sector != c.sector || codeOf(err) != c.code || codeOf(errors.Unwrap(err)) != c.code {
			t.Errorf("%v: %v; not in sector %d, code %d", c.b, err, c.sector, c.code)
		}
		if m.W != 0 || m.H != 0 || len(m.C) != 0 {
			t.Errorf("%v: refused, and yet a map of %d by %d", c.b, m.W, m.H)
		}
	}
}

func TestFaultsAheadOfTilesAndBehindThemHaveNoSector(t *testing.T) {
	for _, c := range []struct {
		b    []byte
		code int
	}{
		{nil, api.ErrShort},
		{[]byte{1, 0, 1}, api.ErrShort},
		{[]byte{0, 0, 1, 0, 3}, api.ErrForm},
		{[]byte{1, 0, 1, 0, 0, 5, 0}, api.ErrForm},
	} {
		_, err := readMap(c.b)
		var f *tileFault
		if err == nil || errors.As(err, &f) || codeOf(err) != c.code {
			t.Errorf("%v: %v; not code %d, without a sector", c.b, err, c.code)
		}
	}
}

func TestWhatFaultsSay(t *testing.T) {
	of := &refusal{code: api.ErrForm, why: "no tile"}
	err := inSector(7, of)
	if err.Error() != "in sector 7: no tile, code 3" || errors.Unwrap(err) != error(of) {
		t.Error(err)
	}
	if codeOf(nil) != api.OK {
		t.Error("nothing went wrong, and yet there is a code")
	}
	if m, err := readMap([]byte{1, 0, 1, 0, 0, 5}); err != nil || m.W != 1 || m.H != 1 || len(m.C) != 1 {
		t.Error(m, err)
	}
}
