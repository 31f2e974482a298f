package pack_test

import (
	"bytes"
	"fmt"
	"math"
	"slices"
	"testing"

	"herdsman/api"
	"herdsman/pack"
	"herdsman/tile"
)

// row is a tile of one row.
func row(c ...byte) api.Tile { return api.Tile{W: len(c), H: 1, C: c} }

// like is a tile of that size whose costs are all alike.
func like(w, h int, cost byte) api.Tile {
	return api.Tile{W: w, H: h, C: bytes.Repeat([]byte{cost}, w*h)}
}

// none is a tile of that size in which no two costs beside each other are alike.
func none(w, h int) api.Tile {
	x := like(w, h, 1)
	for i := range x.C {
		x.C[i] = byte(1 + (i*37)%255)
	}
	return x
}

// striped is a tile of that size in runs of n.
func striped(w, h, n int) api.Tile {
	x := like(w, h, 1)
	for i := range x.C {
		x.C[i] = byte(1 + (i/n)%255)
	}
	return x
}

// lengths of runs, the first one first.
func lengths(costs []byte) []int {
	out := []int{1}
	for i := 1; i < len(costs); i++ {
		if costs[i] != costs[i-1] {
			out = append(out, 0)
		}
		out[len(out)-1]++
	}
	return out
}

// inForm is a tile's bytes of a form; nil where it has none of that form.
func inForm(x api.Tile, form int) []byte {
	l := lengths(x.C)
	switch form {
	case 0:
		if len(l) > 1 {
			return nil
		}
		return []byte{0, x.C[0]}
	case 1:
		return append([]byte{1}, x.C...)
	}
	out, at := []byte{2}, 0
	for _, n := range l {
		out = append(out, byte(n-1), x.C[at])
		at += n
	}
	return out
}

// best is the form of the fewest bytes, and these.
func best(x api.Tile) (int, []byte) {
	form, out := -1, []byte(nil)
	for f := range 3 {
		if b := inForm(x, f); b != nil && (out == nil || len(b) < len(out)) {
			form, out = f, b
		}
	}
	return form, out
}

// samples of all sizes, of one cost, of many runs, of none alike.
func samples(see func(x api.Tile)) {
	for w := 1; w <= 16; w++ {
		for h := 1; h <= 16; h++ {
			see(none(w, h))
			for _, cost := range []byte{1, 2, 254, 255} {
				see(like(w, h, cost))
			}
			for _, n := range []int{1, 2, 3, 16, 17, 128, 255} {
				see(striped(w, h, n))
			}
			for _, i := range []int{0, w*h - 1, w * h / 2} {
				x := like(w, h, 9)
				x.C[i] = 8
				see(x)
			}
		}
	}
}

// tiny is all tiles of w by h of the costs 1, 2, 3.
func tiny(w, h int) []api.Tile {
	out := []api.Tile{like(w, h, 1)}
	for i := range w * h {
		for _, x := range out {
			for cost := byte(2); cost <= 3; cost++ {
				y := api.Tile{W: w, H: h, C: bytes.Clone(x.C)}
				y.C[i] = cost
				out = append(out, y)
			}
		}
	}
	return out
}

// bad tiles may not be.
func bad() []api.Tile {
	return []api.Tile{
		{}, {W: 1, H: 1}, {W: 1, H: 1, C: []byte{}}, {W: 1, H: 1, C: []byte{0}}, {W: 1, H: 1, C: []byte{1, 1}},
		{W: 2, H: 2, C: []byte{1, 1, 1}}, {W: 2, H: 2, C: []byte{1, 1, 1, 1, 1}}, {W: 2, H: 2, C: []byte{1, 1, 1, 1}[:3]},
		{W: 2, H: 2, C: []byte{0, 1, 1, 1}}, {W: 2, H: 2, C: []byte{1, 0, 1, 1}}, {W: 2, H: 2, C: []byte{1, 1, 1, 0}}, {W: 2, H: 2, C: make([]byte, 4)},
		{W: 0, H: 1, C: []byte{1}}, {W: 1, H: 0, C: []byte{1}}, {W: -1, H: 1, C: []byte{1}}, {W: -1, H: -1, C: []byte{1}},
		like(17, 1, 1), like(1, 17, 1), like(17, 17, 1), like(32, 8, 1), like(8, 32, 1),
		{W: math.MaxInt, H: 1, C: []byte{1}}, {W: 1, H: math.MinInt, C: []byte{1}}, {W: math.MinInt + 1, H: math.MinInt + 1, C: []byte{1}}, {W: 1 << 32, H: 1 << 32},
	}
}

func refused(t *testing.T, b []byte, w, h, want int) {
	t.Helper()
	before := bytes.Clone(b)
	x, used, code := pack.Get(b, w, h)
	if code != want || used != 0 || x.W != 0 || x.H != 0 || len(x.C) != 0 {
		t.Errorf("Get %v, %d, %d: %v, %d, %d; not code %d", b, w, h, x, used, code, want)
	}
	if !bytes.Equal(b, before) {
		t.Errorf("Get %v, %d, %d: what was handed in has changed to %v", before, w, h, b)
	}
}

func taken(t *testing.T, b []byte, want api.Tile, long int) {
	t.Helper()
	before := bytes.Clone(b)
	x, used, code := pack.Get(b, want.W, want.H)
	if code != api.OK || used != long || !tile.Same(x, want) {
		t.Errorf("Get %v, %d, %d: %v, %d, %d; not %v, %d", b, want.W, want.H, x, used, code, want, long)
	}
	if !bytes.Equal(b, before) {
		t.Errorf("Get %v, %d, %d: what was handed in has changed to %v", before, want.W, want.H, b)
	}
}

// 3.1

func TestPutTakesTheFewestBytes(t *testing.T) {
	check := func(x api.Tile) {
		form, want := best(x)
		before := bytes.Clone(x.C)
		b, code := pack.Put(x)
		if got := pack.Form(x); got != form || code != api.OK || !bytes.Equal(b, want) {
			t.Errorf("%v: Form %d, Put %v, %d; not %d, %v", x, got, b, code, form, want)
		}
		if !bytes.Equal(x.C, before) {
			t.Errorf("%v: changed", x)
		}
	}
	samples(check)
	for n := 1; n <= 7; n++ {
		for _, x := range tiny(n, 1) {
			check(x)
		}
	}
}

func TestPutOfOrdinaryTiles(t *testing.T) {
	for _, c := range []struct {
		x    api.Tile
		form int
		b    []byte
	}{
		{like(2, 2, 7), 0, []byte{0, 7}},
		{api.Tile{W: 2, H: 2, C: []byte{7, 7, 7, 9}}, 1, []byte{1, 7, 7, 7, 9}}, // form 2 takes as many
		{api.Tile{W: 2, H: 3, C: []byte{7, 7, 7, 7, 7, 9}}, 2, []byte{2, 4, 7, 0, 9}},
		{api.Tile{W: 3, H: 2, C: []byte{5, 5, 6, 6, 7, 7}}, 1, []byte{1, 5, 5, 6, 6, 7, 7}},
		{row(7, 7, 7, 7, 9), 2, []byte{2, 3, 7, 0, 9}},
		{row(9, 7, 7, 7, 7), 2, []byte{2, 0, 9, 3, 7}},
		{row(7, 7, 9, 9, 9, 7, 7), 2, []byte{2, 1, 7, 2, 9, 1, 7}}, // a cost may come again, but not at once
		{row(1), 0, []byte{0, 1}},                                  // all three forms hold it, and form 1 takes as many
		{row(255), 0, []byte{0, 255}},
		{row(1, 255), 1, []byte{1, 1, 255}},
		{like(16, 16, 255), 0, []byte{0, 255}}, // a run of 256
		{like(16, 1, 4), 0, []byte{0, 4}},
		{like(1, 16, 4), 0, []byte{0, 4}},
		{api.Tile{W: 16, H: 16, C: append(bytes.Repeat([]byte{3}, 255), 4)}, 2, []byte{2, 254, 3, 0, 4}},
		{api.Tile{W: 16, H: 16, C: append([]byte{4}, bytes.Repeat([]byte{3}, 255)...)}, 2, []byte{2, 0, 4, 254, 3}},
	} {
		b, code := pack.Put(c.x)
		if got := pack.Form(c.x); got != c.form || code != api.OK || !bytes.Equal(b, c.b) {
			t.Errorf("%v: Form %d, Put %v, %d; not %d, %v", c.x, got, b, code, c.form, c.b)
		}
	}
}

func TestNothingIsPutOfATileThatMayNotBe(t *testing.T) {
	for _, x := range bad() {
		before := bytes.Clone(x.C)
		b, code := pack.Put(x)
		if got := pack.Form(x); got != -1 || code != api.ErrArg || len(b) != 0 {
			t.Errorf("%d by %d of %d: Form %d, Put %v, %d", x.W, x.H, len(x.C), got, b, code)
		}
		if !bytes.Equal(x.C, before) {
			t.Errorf("%d by %d: changed", x.W, x.H)
		}
	}
}

func TestPutLooksOnlyAtTheListItself(t *testing.T) {
	long := []byte{7, 7, 7, 7, 7, 9, 0}
	x := api.Tile{W: 4, H: 1, C: long[:4]}
	if b, code := pack.Put(x); code != api.OK || !bytes.Equal(b, []byte{0, 7}) || pack.Form(x) != 0 {
		t.Error(b, code)
	}
}

func TestPutIsNewMemory(t *testing.T) {
	for _, x := range []api.Tile{like(4, 4, 6), none(4, 4), striped(4, 4, 8)} {
		before := bytes.Clone(x.C)
		a, _ := pack.Put(x)
		b, _ := pack.Put(x)
		want := bytes.Clone(b)
		for i := range a {
			a[i] = 77
		}
		_ = append(a, 78)
		if !bytes.Equal(x.C, before) || !bytes.Equal(b, want) {
			t.Errorf("%v: an answer shares memory", before)
		}
		x.C[0] = 79
		if !bytes.Equal(b, want) {
			t.Errorf("%v: what was handed in is kept", before)
		}
	}
}

// 3.2

func TestGetTakesOnlySidesToSpan(t *testing.T) {
	good := []byte{0, 7}
	for _, side := range []int{math.MinInt, math.MinInt + 1, -1 << 32, -17, -16, -1, 0, 17, 18, 256, 257, 1 << 32, 1<<32 + 1, math.MaxInt - 1, math.MaxInt} {
		for _, b := range [][]byte{good, nil, {}, {3}, {0, 0}, {2, 255, 1}, bytes.Repeat([]byte{1}, 400)} {
			refused(t, b, side, 1, api.ErrArg)
			refused(t, b, 1, side, api.ErrArg)
			refused(t, b, side, 16, api.ErrArg)
			refused(t, b, side, side, api.ErrArg)
			refused(t, b, side, 0, api.ErrArg)
		}
	}
	for w := 1; w <= 16; w++ {
		for h := 1; h <= 16; h++ {
			taken(t, good, like(w, h, 7), 2)
		}
	}
}

func TestGetOfBytesThatEndTooEarly(t *testing.T) {
	samples(func(x api.Tile) {
		b, _ := pack.Put(x)
		for n := range b {
			refused(t, b[:n], x.W, x.H, api.ErrShort) // the rest stands behind the list's end
		}
	})
	refused(t, nil, 1, 1, api.ErrShort)
	refused(t, []byte{}, 16, 16, api.ErrShort)
	refused(t, []byte{2, 0, 5, 0}, 3, 1, api.ErrShort)
	refused(t, []byte{2, 0, 5}, 3, 1, api.ErrShort)
}

func TestGetOfNoForm(t *testing.T) {
	for form := 3; form <= 255; form++ {
		for _, rest := range [][]byte{nil, {5}, {5, 5}, {0, 0, 0}} {
			refused(t, append([]byte{byte(form)}, rest...), 2, 1, api.ErrForm)
		}
	}
}

func TestGetOfACostOfZero(t *testing.T) {
	samples(func(x api.Tile) {
		b, _ := pack.Put(x)
		for i, cost := range b {
			if i == 0 || b[0] == 2 && i%2 == 1 {
				continue
			}
			b[i] = 0
			refused(t, b, x.W, x.H, api.ErrForm)
			b[i] = cost
		}
	})
}

func TestGetOfRuns(t *testing.T) {
	for _, c := range []struct {
		b          []byte
		w, h, code int
	}{
		{[]byte{2, 255, 9}, 16, 16, api.ErrForm}, // a run of 256 is form 0
		{[]byte{2, 255, 9}, 16, 15, api.ErrForm}, // it goes on beyond
		{[]byte{2, 254, 9, 1, 8}, 16, 16, api.ErrForm},
		{[]byte{2, 254, 9, 255, 8}, 16, 16, api.ErrForm},
		{[]byte{2, 254, 9, 0, 9}, 16, 16, api.ErrForm},
		{[]byte{2, 8, 9, 0, 7, 0, 7}, 11, 1, api.ErrForm},
		{[]byte{2, 0, 9, 0, 9, 8, 7}, 11, 1, api.ErrForm},
		{[]byte{2, 9, 9, 0, 7}, 11, 1, api.OK},
		{[]byte{2, 9, 9, 0, 7, 0, 7}, 11, 1, api.OK}, // the last one is not asked
		{[]byte{2, 9, 9, 0, 7, 0}, 11, 1, api.OK},
		{[]byte{2, 254, 9, 0, 8}, 16, 16, api.OK},
		{[]byte{2, 0, 9, 254, 8}, 16, 16, api.OK},
		{[]byte{2, 9, 9, 9, 7, 9, 9}, 6, 5, api.OK}, // over the ends of rows
	} {
		if _, used, code := pack.Get(c.b, c.w, c.h); code != c.code || (code != api.OK) != (used == 0) {
			t.Errorf("Get %v, %d, %d: %d bytes, code %d, not %d", c.b, c.w, c.h, used, code, c.code)
		}
		if c.code != api.OK {
			refused(t, c.b, c.w, c.h, c.code)
		}
	}
}

func TestGetTellsWhatComesFirst(t *testing.T) {
	for _, c := range []struct {
		name string
		b    []byte
		code int
	}{
		{"a form above 2, and no more", []byte{3}, api.ErrForm},
		{"a cost of 0, and too few costs", []byte{1, 0, 5, 5}, api.ErrShort},
		{"a cost of 0 behind which nothing is asked", []byte{0, 0}, api.ErrForm},
		{"a run beyond, its cost not there", []byte{2, 9}, api.ErrShort},
		{"a run beyond, of 0", []byte{2, 9, 0}, api.ErrForm},
		{"a run of 0, and too few runs", []byte{2, 0, 0}, api.ErrForm},
		{"a run beyond, behind it nothing", []byte{2, 0, 5, 9, 6}, api.ErrForm},
		{"a run alike, and too few runs", []byte{2, 0, 5, 0, 5}, api.ErrForm},
		{"a run alike and beyond", []byte{2, 0, 5, 9, 5}, api.ErrForm},
		{"a run alike, its cost not there", []byte{2, 0, 5, 0}, api.ErrShort},
		{"not the form to write, and too few runs", []byte{2, 0, 5, 0, 6}, api.ErrShort},
		{"not the form to write, and too few costs", []byte{1, 5, 5, 5}, api.ErrShort},
	} {
		x, used, code := pack.Get(c.b, 2, 2)
		if code != c.code || used != 0 || x.W != 0 || x.H != 0 || len(x.C) != 0 {
			t.Errorf("%s: %v, %d, %d; not %d", c.name, x, used, code, c.code)
		}
	}
}

func TestGetRefusesFormsThatPutWouldNotWrite(t *testing.T) {
	check := func(x api.Tile) {
		form, want := best(x)
		for f := range 3 {
			b := inForm(x, f)
			if f == form {
				taken(t, b, x, len(want))
			} else if b != nil {
				refused(t, b, x.W, x.H, api.ErrForm)
			}
		}
	}
	samples(check)
	for _, x := range tiny(3, 2) {
		check(x)
	}
}

func TestGetIsNewMemory(t *testing.T) {
	for _, x := range []api.Tile{like(4, 4, 6), none(4, 4), striped(4, 4, 8)} {
		b, _ := pack.Put(x)
		b = append(b, 1, 2, 3)
		before := bytes.Clone(b)
		y, _, _ := pack.Get(b, 4, 4)
		z, _, _ := pack.Get(b, 4, 4)
		for i := range y.C {
			y.C[i] = 77
		}
		_ = append(y.C, 78)
		if !bytes.Equal(b, before) || !tile.Same(z, x) {
			t.Errorf("%v: an answer shares memory", x)
		}
		for i := range b {
			b[i] = 79
		}
		if !tile.Same(z, x) {
			t.Errorf("%v: what was handed in is kept", x)
		}
	}
}

// 3.3

func TestWhatIsPutIsGot(t *testing.T) {
	check := func(x api.Tile) {
		b, _ := pack.Put(x)
		taken(t, b, x, len(b))
		for _, behind := range [][]byte{{0}, {255}, {0, 1}, {b[len(b)-2], b[len(b)-1]}, {3, 0, 0, 0}} {
			taken(t, slices.Concat(b, behind), x, len(b))
		}
	}
	samples(check)
	for _, x := range tiny(2, 3) {
		check(x)
	}
}

// TestNothingElseIsGot: of all rows of some bytes, up to a length, just those are got that begin with what is put.
func TestNothingElseIsGot(t *testing.T) {
	for _, size := range [][2]int{{1, 1}, {2, 1}, {1, 3}, {2, 2}, {5, 1}} {
		put := map[string]api.Tile{}
		for _, x := range tiny(size[0], size[1]) {
			b, _ := pack.Put(x)
			put[string(b)] = x
		}
		all := [][]byte{nil}
		for i := 0; i < len(all); i++ {
			b := all[i]
			want, long := api.Tile{}, 0
			for n := range len(b) + 1 {
				if x, ok := put[string(b[:n])]; ok {
					want, long = x, n
				}
			}
			x, used, code := pack.Get(b, size[0], size[1])
			if !tile.Same(x, want) || used != long || (code == api.OK) != (long > 0) {
				t.Fatalf("Get %v, %v: %v, %d, %d; not %v, %d", b, size, x, used, code, want, long)
			}
			if len(b) < 7 {
				for c := range byte(4) {
					all = append(all, slices.Concat(b, []byte{c}))
				}
			}
		}
	}
}

// plainly is what Get is to tell, with every byte asked for one by one.
func plainly(b []byte, cells int) (costs []byte, used, code int) {
	short := false
	ask := func() int {
		if used == len(b) {
			short = true
			return -1
		}
		used++
		return int(b[used-1])
	}
	form := ask()
	switch {
	case short:
		return nil, 0, api.ErrShort
	case form > 2:
		return nil, 0, api.ErrForm
	}
	last := -1
	for len(costs) < cells {
		n := 1
		if form == 2 {
			n = 1 + ask()
		} else if form == 0 {
			n = cells
		}
		cost := ask()
		if short {
			return nil, 0, api.ErrShort
		}
		wrong := form != 1 && cost == 0 || form == 2 && (len(costs)+n > cells || cost == last)
		if wrong {
			return nil, 0, api.ErrForm
		}
		costs, last = append(costs, bytes.Repeat([]byte{byte(cost)}, n)...), cost
	}
	if slices.Contains(costs, 0) {
		return nil, 0, api.ErrForm
	}
	if _, want := best(api.Tile{W: 1, H: cells, C: costs}); !bytes.Equal(want, b[:used]) {
		return nil, 0, api.ErrForm
	}
	return costs, used, api.OK
}

// TestGetOfSpoiltBytes: what is put, with bytes cut, changed, or twice there.
func TestGetOfSpoiltBytes(t *testing.T) {
	for _, x := range []api.Tile{like(16, 16, 1), like(3, 3, 9), none(3, 4), striped(4, 4, 8), striped(16, 16, 16), striped(16, 16, 255), striped(5, 5, 3), row(1, 1, 2)} {
		b, _ := pack.Put(x)
		for i := range b {
			for c := range 256 {
				y := bytes.Clone(b)
				y[i] = byte(c)
				asPlainly(t, y, x)
			}
			asPlainly(t, slices.Delete(bytes.Clone(b), i, i+1), x)
			asPlainly(t, slices.Insert(bytes.Clone(b), i, b[i]), x)
		}
	}
}

func asPlainly(t *testing.T, b []byte, x api.Tile) {
	t.Helper()
	costs, used, code := plainly(b, x.W*x.H)
	if code == api.OK {
		taken(t, b, api.Tile{W: x.W, H: x.H, C: costs}, used)
		return
	}
	refused(t, b, x.W, x.H, code)
}

func TestExamplesOfFour(t *testing.T) {
	for _, c := range []struct{ costs, b string }{{"\x07\x07\x07\x07", "\x00\x07"}, {"\x07\x07\x07\x09", "\x01\x07\x07\x07\x09"}} {
		x := api.Tile{W: 2, H: 2, C: []byte(c.costs)}
		if b, code := pack.Put(x); code != api.OK || string(b) != c.b {
			t.Error(fmt.Sprint(x), b, code)
		}
		taken(t, []byte(c.b), x, len(c.b))
	}
}
