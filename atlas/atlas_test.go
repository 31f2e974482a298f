package atlas_test

import (
	"bytes"
	"fmt"
	"math"
	"slices"
	"testing"

	"herdsman/api"
	"herdsman/atlas"
	"herdsman/pack"
	"herdsman/tile"
)

// sizes that may be: the least, one row, one column, whole sectors, last ones that are smaller, the greatest.
var sizes = [][2]int{
	{1, 1}, {1, 2}, {2, 1}, {3, 5}, {15, 16}, {16, 15}, {16, 16}, {16, 17}, {17, 16}, {17, 17}, {20, 3},
	{1, 16}, {16, 1}, {1, 17}, {17, 1}, {33, 31}, {32, 48}, {40, 33}, {255, 1}, {256, 2}, {257, 1}, {2, 258},
	{1, 1024}, {1024, 1}, {1023, 2}, {2, 1009}, {1024, 1024}, {1009, 1023},
}

// odd numbers: what a program may hand over by mistake. None is a side or a sector.
var odd = []int{
	math.MinInt, math.MinInt + 1, -1 << 32, -1025, -17, -16, -2, -1,
	math.MaxInt, math.MaxInt - 1, 1 << 62, 1 << 40, 1<<32 + 1, 1 << 32, 1 << 20, 1 << 16,
}

// like is a map of that size whose costs are all alike.
func like(w, h int, cost byte) api.Map {
	return api.Map{W: w, H: h, C: bytes.Repeat([]byte{cost}, w*h)}
}

// mixed is a map of that size whose costs go round through all that there are, Wall among them.
func mixed(w, h int) api.Map {
	m := like(w, h, 1)
	for i := range m.C {
		m.C[i] = byte(1 + (254+i*37+i/w*11)%255)
	}
	return m
}

// striped is a map of that size with runs within its rows.
func striped(w, h int) api.Map {
	m := like(w, h, 1)
	for i := range m.C {
		m.C[i] = byte(1 + (i%w/7+i/w/5)%255)
	}
	return m
}

// patched is a map whose sectors have each another cost, some of them another one in a cell.
func patched(w, h int) api.Map {
	m := like(w, h, 1)
	for y := range h {
		for x := range w {
			m.C[y*w+x] = byte(1 + (x/16*5+y/16*3)%254)
			if x/16%2 == 1 && x%16 == 3 && y%16 == 0 {
				m.C[y*w+x] = 255
			}
		}
	}
	return m
}

// samples of all sizes.
func samples(see func(m api.Map)) {
	for _, s := range sizes {
		see(like(s[0], s[1], 1))
		see(like(s[0], s[1], 255))
		see(mixed(s[0], s[1]))
		see(striped(s[0], s[1]))
		see(patched(s[0], s[1]))
	}
}

// tilesOf a map, found by going over it sector by sector and cell by cell.
func tilesOf(m api.Map) []api.Tile {
	var out []api.Tile
	for top := 0; top < m.H; top += 16 {
		for left := 0; left < m.W; left += 16 {
			t := api.Tile{W: min(16, m.W-left), H: min(16, m.H-top)}
			for y := top; y < top+t.H; y++ {
				for x := left; x < left+t.W; x++ {
					t.C = append(t.C, m.C[y*m.W+x])
				}
			}
			out = append(out, t)
		}
	}
	return out
}

// bytesOf a map, by its tiles.
func bytesOf(m api.Map) []byte {
	b := []byte{byte(m.W % 256), byte(m.W / 256), byte(m.H % 256), byte(m.H / 256)}
	for _, t := range tilesOf(m) {
		p, _ := pack.Put(t)
		b = append(b, p...)
	}
	return b
}

// bad maps may not be.
func bad() map[string]api.Map {
	out := map[string]api.Map{
		"nothing":               {},
		"only costs":            {C: []byte{1}},
		"nil costs":             {W: 1, H: 1},
		"no costs":              {W: 1, H: 1, C: []byte{}},
		"a cost of 0":           {W: 1, H: 1, C: []byte{0}},
		"0 at the beginning":    {W: 3, H: 1, C: []byte{0, 1, 1}},
		"0 within":              {W: 1, H: 3, C: []byte{1, 0, 1}},
		"0 at the end":          {W: 3, H: 1, C: []byte{1, 1, 0}},
		"one too few":           {W: 2, H: 2, C: []byte{1, 1, 1}},
		"one too many":          {W: 2, H: 2, C: []byte{1, 1, 1, 1, 1}},
		"enough behind the end": {W: 2, H: 2, C: []byte{1, 1, 1, 1}[:3]},
		"a row too few":         {W: 40, H: 33, C: like(40, 32, 1).C},
		"a row too many":        {W: 40, H: 33, C: like(40, 34, 1).C},
		"too wide":              like(1025, 1, 1),
		"too high":              like(1, 1025, 1),
		"as many, too wide":     like(2048, 512, 1),
		"as many, too high":     like(512, 2048, 1),
		"sides below 0":         {W: -2, H: -2, C: []byte{1, 1, 1, 1}},
		"sides wrap to 0":       {W: 1 << 32, H: 1 << 32},
		"sides wrap to 0, [0]":  {W: math.MinInt, H: 2, C: []byte{}},
		"sides wrap to 1":       {W: math.MinInt + 1, H: math.MinInt + 1, C: []byte{1}},
		"greatest wrap to 1":    {W: math.MaxInt, H: math.MaxInt, C: []byte{1}},
		"greatest, too few":     like(1024, 1023, 1),
		"greatest, with a 0":    like(1024, 1024, 1),
	}
	m := out["greatest, too few"]
	m.H = 1024
	out["greatest, too few"] = m
	out["greatest, with a 0"].C[1<<20-1] = 0
	for _, side := range append([]int{0, 1025}, odd...) {
		out[fmt.Sprint("W ", side)] = api.Map{W: side, H: 1, C: []byte{1}}
		out[fmt.Sprint("H ", side)] = api.Map{W: 1, H: side, C: []byte{1}}
		out[fmt.Sprint("W H ", side)] = api.Map{W: side, H: side, C: []byte{1}}
		out[fmt.Sprint("W, no H ", side)] = api.Map{W: side, H: 0}
	}
	return out
}

func empty(m api.Map) bool { return m.W == 0 && m.H == 0 && len(m.C) == 0 }

func refused(t *testing.T, b []byte, want int) {
	t.Helper()
	before := bytes.Clone(b)
	if m, code := atlas.Get(b); code != want || !empty(m) {
		t.Errorf("Get %v: %d by %d, %d costs, code %d; not %d", before[:min(len(b), 40)], m.W, m.H, len(m.C), code, want)
	}
	if !bytes.Equal(b, before) {
		t.Error("Get: what was handed in has changed")
	}
}

func taken(t *testing.T, b []byte, want api.Map) {
	t.Helper()
	before := bytes.Clone(b)
	m, code := atlas.Get(b)
	if code != api.OK || m.W != want.W || m.H != want.H || !bytes.Equal(m.C, want.C) {
		t.Errorf("Get %v: %d by %d, code %d; not the map of %d by %d", before[:min(len(b), 40)], m.W, m.H, code, want.W, want.H)
	}
	if !bytes.Equal(b, before) {
		t.Error("Get: what was handed in has changed")
	}
}

func unjoined(t *testing.T, name string, w, h int, l []api.Tile) {
	t.Helper()
	if m, ok := atlas.Join(w, h, l); ok || !empty(m) {
		t.Errorf("%s: Join %d by %d of %d tiles: %d by %d, %v", name, w, h, len(l), m.W, m.H, ok)
	}
}

// 4.1

func TestMay(t *testing.T) {
	samples(func(m api.Map) {
		if !atlas.May(m) {
			t.Errorf("%d by %d may not be", m.W, m.H)
		}
	})
	for name, m := range bad() {
		if atlas.May(m) {
			t.Errorf("%q may be", name)
		}
	}
	for cost := range 256 {
		if got := atlas.May(api.Map{W: 2, H: 1, C: []byte{1, byte(cost)}}); got != (cost != 0) {
			t.Errorf("cost %d: %v", cost, got)
		}
	}
	if !atlas.May(api.Map{W: 2, H: 1, C: []byte{1, 1, 0, 0}[:2]}) {
		t.Error("what stands behind the costs is asked")
	}
}

func TestSame(t *testing.T) {
	m := mixed(20, 18)
	if !atlas.Same(m, m) || !atlas.Same(m, mixed(20, 18)) {
		t.Error("a map is unlike itself")
	}
	for i := range m.C {
		n := mixed(20, 18)
		n.C[i] ^= 1
		if atlas.Same(m, n) || atlas.Same(n, m) {
			t.Error("alike, but for the cost of", i)
		}
	}
	four := []byte{1, 2, 3, 4}
	kinds := []api.Map{
		{W: 2, H: 2, C: four}, {W: 4, H: 1, C: four}, {W: 1, H: 4, C: four}, {W: 2, H: 3, C: four}, {W: 3, H: 2, C: four},
		{W: 2, H: 2, C: four[:3]}, {W: 2, H: 2, C: []byte{1, 2, 3, 4, 5}}, {W: 2, H: 2}, {}, {W: 1}, {H: 1}, {C: four}, {C: []byte{0}},
		{W: math.MaxInt, H: math.MinInt}, {W: math.MinInt, H: math.MaxInt}, {W: -1, H: -1, C: []byte{0, 0}}, {W: 1 << 32}, {H: 1 << 32},
	}
	for i, a := range kinds {
		for j, b := range kinds {
			if got := atlas.Same(a, b); got != (i == j) {
				t.Errorf("Same of %v and %v: %v", a, b, got)
			}
		}
		other := api.Map{W: a.W, H: a.H, C: append([]byte{}, a.C...)}
		if !atlas.Same(a, other) || !atlas.Same(other, a) {
			t.Errorf("%v is unlike what it is like", a)
		}
	}
	if !atlas.Same(api.Map{W: 2, H: 1, C: four[:2]}, api.Map{W: 2, H: 1, C: []byte{1, 2, 9}[:2]}) {
		t.Error("what stands behind the costs is asked")
	}
}

func TestTileOfEachSector(t *testing.T) {
	samples(func(m api.Map) {
		before := bytes.Clone(m.C)
		want := tilesOf(m)
		step := 1 + len(want)/64*7 // of the greatest ones not all
		for k := 0; k < len(want); k += step {
			if x, ok := atlas.Tile(m, k); !ok || !tile.Same(x, want[k]) {
				t.Fatalf("%d by %d: tile %d is %v, %v; not %v", m.W, m.H, k, x, ok, want[k])
			}
		}
		last := len(want) - 1
		if x, ok := atlas.Tile(m, last); !ok || !tile.Same(x, want[last]) {
			t.Fatalf("%d by %d: the last tile is %v, %v; not %v", m.W, m.H, x, ok, want[last])
		}
		for _, k := range append([]int{len(want), len(want) + 1, 1 << 13}, odd...) {
			if x, ok := atlas.Tile(m, k); ok || x.W != 0 || x.H != 0 || len(x.C) != 0 {
				t.Fatalf("%d by %d: there is a tile %d: %v, %v", m.W, m.H, k, x, ok)
			}
		}
		if !bytes.Equal(m.C, before) {
			t.Fatalf("%d by %d: changed", m.W, m.H)
		}
	})
}

func TestTilesAtTheRightAndAtTheLowerEdge(t *testing.T) {
	m := mixed(18, 17)
	var right []byte
	for y := range 16 {
		right = append(right, m.C[y*18+16], m.C[y*18+17])
	}
	for k, want := range map[int]api.Tile{
		1: {W: 2, H: 16, C: right},
		2: {W: 16, H: 1, C: m.C[16*18 : 16*18+16]},
		3: {W: 2, H: 1, C: m.C[16*18+16:]},
	} {
		if x, ok := atlas.Tile(m, k); !ok || !tile.Same(x, want) {
			t.Errorf("tile %d: %v, %v; not %v", k, x, ok, want)
		}
	}
}

func TestNoTileOfAMapThatMayNotBe(t *testing.T) {
	for name, m := range bad() {
		for _, k := range []int{0, 1, 5, -1, math.MaxInt, math.MinInt} {
			if x, ok := atlas.Tile(m, k); ok || x.W != 0 || x.H != 0 || len(x.C) != 0 {
				t.Errorf("%q: tile %d is %v, %v", name, k, x, ok)
			}
		}
	}
	m := mixed(40, 33)
	m.C[0] = 0 // of another sector than the one that is asked for
	if _, ok := atlas.Tile(m, 8); ok {
		t.Error("a tile of a map that may not be")
	}
}

func TestTileIsNewMemory(t *testing.T) {
	for _, s := range [][2]int{{1, 1}, {16, 16}, {16, 40}, {40, 33}} {
		m := mixed(s[0], s[1])
		before := bytes.Clone(m.C)
		x, _ := atlas.Tile(m, 0)
		y, _ := atlas.Tile(m, 0)
		want := bytes.Clone(y.C)
		for i := range x.C {
			x.C[i] = 77
		}
		_ = append(x.C, 78)
		if !bytes.Equal(m.C, before) || !bytes.Equal(y.C, want) {
			t.Errorf("%v: an answer shares memory", s)
		}
		m.C[0] = 79
		if !bytes.Equal(y.C, want) {
			t.Errorf("%v: what was handed in is kept", s)
		}
	}
}

func TestJoinOfAMapsTiles(t *testing.T) {
	samples(func(m api.Map) {
		l := tilesOf(m)
		j, ok := atlas.Join(m.W, m.H, l)
		if !ok || j.W != m.W || j.H != m.H || !bytes.Equal(j.C, m.C) {
			t.Errorf("%d by %d: not joined again, %v", m.W, m.H, ok)
		}
		for k, x := range tilesOf(m) {
			if !tile.Same(l[k], x) {
				t.Fatalf("%d by %d: tile %d has changed", m.W, m.H, k)
			}
		}
	})
}

func TestJoinTakesOneTileOfEachSector(t *testing.T) {
	samples(func(m api.Map) {
		if m.W*m.H > 10000 {
			return
		}
		l := tilesOf(m)
		last := len(l) - 1
		unjoined(t, "one too few", m.W, m.H, l[:last])
		unjoined(t, "none ahead", m.W, m.H, l[1:])
		unjoined(t, "one too many", m.W, m.H, append(slices.Clone(l), l[last]))
		unjoined(t, "one too many, that may not be", m.W, m.H, append(slices.Clone(l), api.Tile{}))
		unjoined(t, "all twice", m.W, m.H, slices.Concat(l, l))
		unjoined(t, "nil", m.W, m.H, nil)
		unjoined(t, "empty", m.W, m.H, []api.Tile{})
	})
}

func TestJoinTakesTilesThatMayBeOfTheirSectorsSize(t *testing.T) {
	for _, s := range [][2]int{{1, 1}, {16, 16}, {17, 3}, {3, 17}, {20, 3}, {40, 33}} {
		l := tilesOf(mixed(s[0], s[1]))
		for k, x := range l {
			for name, y := range map[string]api.Tile{
				"nothing":       {},
				"only sides":    {W: x.W, H: x.H},
				"a 0":           {W: x.W, H: x.H, C: append(slices.Clone(x.C[1:]), 0)},
				"one too few":   {W: x.W, H: x.H, C: x.C[:len(x.C)-1]},
				"one too many":  {W: x.W, H: x.H, C: append(slices.Clone(x.C), 1)},
				"wider":         {W: x.W + 1, H: x.H, C: like(x.W+1, x.H, 1).C},
				"higher":        {W: x.W, H: x.H + 1, C: like(x.W, x.H+1, 1).C},
				"less wide":     {W: x.W - 1, H: x.H, C: like(x.W-1, x.H, 1).C},
				"less high":     {W: x.W, H: x.H - 1, C: like(x.W, x.H-1, 1).C},
				"backwards":     {W: -x.W, H: -x.H, C: x.C},
				"wraps to 0":    {W: 1 << 32, H: 1 << 32},
				"greatest, one": {W: math.MaxInt, H: math.MaxInt, C: []byte{1}},
				"least":         {W: math.MinInt, H: math.MinInt},
			} {
				spoilt := slices.Clone(l)
				spoilt[k] = y
				unjoined(t, name, s[0], s[1], spoilt)
			}
			if x.W == x.H {
				continue
			}
			spoilt := slices.Clone(l)
			spoilt[k] = api.Tile{W: x.H, H: x.W, C: x.C}
			unjoined(t, "on its side", s[0], s[1], spoilt)
		}
	}
	l := tilesOf(mixed(17, 1))
	unjoined(t, "not in order", 17, 1, []api.Tile{l[1], l[0]})
	unjoined(t, "of the map on its side", 1, 17, l)
	unjoined(t, "of a map of as many sectors", 18, 1, l)
	unjoined(t, "of a map of as many sectors", 17, 2, l)
}

func TestJoinTakesOnlySidesThatMayBe(t *testing.T) {
	one := []api.Tile{{W: 1, H: 1, C: []byte{1}}}
	for _, side := range append([]int{0, 1025}, odd...) {
		for _, l := range [][]api.Tile{nil, {}, one, {{}}, tilesOf(like(1040, 1, 1)), tilesOf(like(1, 1040, 1))} {
			unjoined(t, "W", side, 1, l)
			unjoined(t, "H", 1, side, l)
			unjoined(t, "both", side, side, l)
			unjoined(t, "0", side, 0, l)
		}
	}
	unjoined(t, "too wide", 1025, 1, tilesOf(like(1025, 1, 1)))
	unjoined(t, "too high", 1, 1025, tilesOf(like(1, 1025, 1)))
}

func TestJoinIsNewMemory(t *testing.T) {
	for _, s := range [][2]int{{1, 1}, {16, 16}, {40, 33}} {
		m := mixed(s[0], s[1])
		l := tilesOf(m)
		a, _ := atlas.Join(s[0], s[1], l)
		b, _ := atlas.Join(s[0], s[1], l)
		for i := range a.C {
			a.C[i] = 77
		}
		_ = append(a.C, 78)
		if !tile.Same(l[0], tilesOf(m)[0]) || !bytes.Equal(b.C, m.C) {
			t.Errorf("%v: an answer shares memory", s)
		}
		l[0].C[0] ^= 1
		if !bytes.Equal(b.C, m.C) {
			t.Errorf("%v: what was handed in is kept", s)
		}
	}
}

// 4.2

func TestPutWritesTheSidesAndEachTile(t *testing.T) {
	samples(func(m api.Map) {
		before := bytes.Clone(m.C)
		if b, code := atlas.Put(m); code != api.OK || !bytes.Equal(b, bytesOf(m)) {
			t.Errorf("Put of %d by %d: %d bytes, code %d", m.W, m.H, len(b), code)
		}
		if !bytes.Equal(m.C, before) {
			t.Errorf("%d by %d: changed", m.W, m.H)
		}
	})
}

func TestPutOfOrdinaryMaps(t *testing.T) {
	two := like(17, 2, 3)
	two.C[16], two.C[33] = 8, 9
	four := like(18, 17, 5)
	four.C[17], four.C[16*18], four.C[16*18+16] = 6, 7, 255
	for _, c := range []struct {
		m api.Map
		b []byte
	}{
		{like(1, 1, 5), []byte{1, 0, 1, 0, 0, 5}},
		{api.Map{W: 2, H: 1, C: []byte{1, 255}}, []byte{2, 0, 1, 0, 1, 1, 255}},
		{api.Map{W: 1, H: 2, C: []byte{1, 255}}, []byte{1, 0, 2, 0, 1, 1, 255}},
		{like(16, 16, 9), []byte{16, 0, 16, 0, 0, 9}},
		{like(17, 1, 9), []byte{17, 0, 1, 0, 0, 9, 0, 9}},
		{like(1, 17, 9), []byte{1, 0, 17, 0, 0, 9, 0, 9}},
		{two, []byte{17, 0, 2, 0, 0, 3, 1, 8, 9}},
		{four, []byte{18, 0, 17, 0, 0, 5, 2, 0, 5, 0, 6, 29, 5, 2, 0, 7, 14, 5, 1, 255, 5}},
	} {
		if b, code := atlas.Put(c.m); code != api.OK || !bytes.Equal(b, c.b) {
			t.Errorf("Put of %d by %d: %v, %d; not %v", c.m.W, c.m.H, b, code, c.b)
		}
		taken(t, c.b, c.m)
	}
}

func TestSidesAreInTwoBytesTheLowestFirst(t *testing.T) {
	for _, c := range []struct {
		w, h int
		b    []byte
	}{
		{255, 1, []byte{255, 0, 1, 0}}, {256, 1, []byte{0, 1, 1, 0}}, {1, 256, []byte{1, 0, 0, 1}}, {258, 1, []byte{2, 1, 1, 0}},
		{300, 2, []byte{44, 1, 2, 0}}, {2, 300, []byte{2, 0, 44, 1}}, {1023, 1, []byte{255, 3, 1, 0}}, {1024, 1, []byte{0, 4, 1, 0}},
		{1, 1024, []byte{1, 0, 0, 4}}, {1024, 1024, []byte{0, 4, 0, 4}}, {513, 770, []byte{1, 2, 2, 3}},
	} {
		tiles := (c.w + 15) / 16 * ((c.h + 15) / 16)
		want := append(slices.Clone(c.b), bytes.Repeat([]byte{0, 6}, tiles)...)
		if b, code := atlas.Put(like(c.w, c.h, 6)); code != api.OK || !bytes.Equal(b, want) {
			t.Errorf("Put of %d by %d begins with %v, code %d", c.w, c.h, b[:min(len(b), 4)], code)
		}
		taken(t, want, like(c.w, c.h, 6))
	}
}

func TestNothingIsPutOfAMapThatMayNotBe(t *testing.T) {
	for name, m := range bad() {
		before := bytes.Clone(m.C)
		if b, code := atlas.Put(m); code != api.ErrArg || len(b) != 0 {
			t.Errorf("%q: Put %d bytes, code %d", name, len(b), code)
		}
		if !bytes.Equal(m.C, before) {
			t.Errorf("%q: changed", name)
		}
	}
}

func TestPutIsNewMemory(t *testing.T) {
	for _, m := range []api.Map{like(4, 4, 6), mixed(4, 4), mixed(40, 33)} {
		before := bytes.Clone(m.C)
		a, _ := atlas.Put(m)
		b, _ := atlas.Put(m)
		want := bytes.Clone(b)
		for i := range a {
			a[i] = 77
		}
		_ = append(a, 78)
		if !bytes.Equal(m.C, before) || !bytes.Equal(b, want) {
			t.Errorf("%d by %d: an answer shares memory", m.W, m.H)
		}
		m.C[0] = 79
		if !bytes.Equal(b, want) {
			t.Errorf("%d by %d: what was handed in is kept", m.W, m.H)
		}
	}
}

func TestGetOfBytesThatEndTooEarly(t *testing.T) {
	refused(t, nil, api.ErrShort)
	refused(t, []byte{}, api.ErrShort)
	samples(func(m api.Map) {
		b := bytesOf(m)
		step := 1 + len(b)/500*len(b)/500
		for n := 0; n < len(b); n += step {
			refused(t, b[:n], api.ErrShort) // the rest stands behind the list's end
			refused(t, bytes.Clone(b[:n]), api.ErrShort)
		}
		refused(t, b[:len(b)-1], api.ErrShort)
	})
}

func TestGetOfSidesThatMayNotBe(t *testing.T) {
	for _, side := range []int{0, 1025, 1026, 1279, 1280, 2048, 4096, 1 << 14, 1 << 15, 1<<15 + 1, 65535} {
		low, high := byte(side%256), byte(side/256)
		for _, rest := range [][]byte{nil, {0}, {0, 5}, {9}, bytes.Repeat([]byte{0, 5}, 10000)} {
			refused(t, append([]byte{low, high, 1, 0}, rest...), api.ErrForm)
			refused(t, append([]byte{1, 0, low, high}, rest...), api.ErrForm)
			refused(t, append([]byte{low, high, low, high}, rest...), api.ErrForm)
			refused(t, append([]byte{low, high, 0, 0}, rest...), api.ErrForm)
		}
	}
}

func TestGetOfTilesThatPackDoesNotTake(t *testing.T) {
	for _, c := range []struct {
		name string
		b    []byte
		code int
	}{
		{"no form", []byte{1, 0, 1, 0, 3, 5}, api.ErrForm},
		{"a cost of 0", []byte{1, 0, 1, 0, 0, 0}, api.ErrForm},
		{"a form that is not written", []byte{1, 0, 1, 0, 1, 5}, api.ErrForm},
		{"a run beyond", []byte{5, 0, 1, 0, 2, 5, 5}, api.ErrForm},
		{"a run alike", []byte{5, 0, 1, 0, 2, 0, 5, 3, 5}, api.ErrForm},
		{"a tile as if of 16 by 16", []byte{4, 0, 1, 0, 2, 254, 5, 0, 6}, api.ErrForm},
		{"no form in the second", []byte{17, 0, 1, 0, 0, 3, 3, 5}, api.ErrForm},
		{"a cost of 0 in the second", []byte{17, 0, 1, 0, 0, 3, 0, 0}, api.ErrForm},
		{"a form that is not written in the second", []byte{17, 0, 2, 0, 0, 3, 1, 8, 8}, api.ErrForm},
		{"too few costs in the second", []byte{17, 0, 2, 0, 0, 3, 1, 8}, api.ErrShort},
		{"no second one", []byte{17, 0, 1, 0, 0, 3}, api.ErrShort},
		{"no second one, down", []byte{1, 0, 17, 0, 0, 3}, api.ErrShort},
		{"no tile", []byte{1, 0, 1, 0}, api.ErrShort},
	} {
		t.Run(c.name, func(t *testing.T) { refused(t, c.b, c.code) })
	}
}

func TestGetOfBytesBehindTheLastTile(t *testing.T) {
	samples(func(m api.Map) {
		b := bytesOf(m)
		for _, behind := range [][]byte{{0}, {255}, {0, 5}, {0, 0, 0, 0}, {1, 0, 1, 0, 0, 5}} {
			refused(t, slices.Concat(b, behind), api.ErrForm)
		}
		long := append(slices.Clone(b), 0, 5)
		taken(t, long[:len(b)], m) // what stands behind the list's end is not asked
	})
}

func TestGetTellsWhatComesFirst(t *testing.T) {
	for _, c := range []struct {
		name string
		b    []byte
		code int
	}{
		{"sides of 0, and too few bytes", []byte{0, 0, 0}, api.ErrShort},
		{"W too great, and too few bytes", []byte{255, 255}, api.ErrShort},
		{"sides of 0, and no tile", []byte{0, 0, 0, 0}, api.ErrForm},
		{"H too great, and no tile", []byte{1, 0, 1, 4}, api.ErrForm},
		{"sides of 0, and something behind", []byte{1, 0, 0, 0, 0, 5}, api.ErrForm},
		{"no form in the first, and no second one", []byte{17, 0, 1, 0, 3}, api.ErrForm},
		{"a cost of 0 in the first, and no second one", []byte{17, 0, 1, 0, 0, 0}, api.ErrForm},
		{"a form that is not written in the first, and no second one", []byte{33, 0, 1, 0, 0, 3, 2, 15, 9}, api.ErrForm},
		{"no form in the second, and no third one", []byte{33, 0, 1, 0, 0, 3, 7}, api.ErrForm},
		{"no form in the second, the first takes all", append([]byte{17, 0, 1, 0, 1}, 1, 2, 3, 4, 5, 6, 7), api.ErrShort},
		{"a cost of 0 in the first, which ends too early", []byte{17, 0, 1, 0, 1, 0, 0, 0}, api.ErrShort},
		{"the last one ends too early, by what stands there", []byte{2, 0, 1, 0, 1, 0}, api.ErrShort},
		{"a cost of 0 in the last one, and something behind", []byte{1, 0, 1, 0, 0, 0, 9}, api.ErrForm},
	} {
		t.Run(c.name, func(t *testing.T) { refused(t, c.b, c.code) })
	}
}

func TestGetIsNewMemory(t *testing.T) {
	for _, m := range []api.Map{like(4, 4, 6), mixed(4, 4), mixed(16, 16), mixed(40, 33)} {
		b := bytesOf(m)
		before := bytes.Clone(b)
		x, _ := atlas.Get(b)
		y, _ := atlas.Get(b)
		for i := range x.C {
			x.C[i] = 77
		}
		_ = append(x.C, 78)
		if !bytes.Equal(b, before) || !atlas.Same(y, m) {
			t.Errorf("%d by %d: an answer shares memory", m.W, m.H)
		}
		for i := range b {
			b[i] = 79
		}
		if !atlas.Same(y, m) {
			t.Errorf("%d by %d: what was handed in is kept", m.W, m.H)
		}
	}
}

// 4.3

func TestWhatIsPutIsGot(t *testing.T) {
	samples(func(m api.Map) {
		b, code := atlas.Put(m)
		if code != api.OK {
			t.Errorf("Put of %d by %d: %d", m.W, m.H, code)
		}
		taken(t, b, m)
	})
}

func TestAMapIsItsTiles(t *testing.T) {
	samples(func(m api.Map) {
		if m.W*m.H > 10000 {
			return
		}
		var l []api.Tile
		for {
			x, ok := atlas.Tile(m, len(l))
			if !ok {
				break
			}
			l = append(l, x)
		}
		j, ok := atlas.Join(m.W, m.H, l)
		if !ok || !atlas.Same(j, m) {
			t.Errorf("%d by %d: its %d tiles are not that map, %v", m.W, m.H, len(l), ok)
		}
		for k := range l {
			if x, ok := atlas.Tile(j, k); !ok || !tile.Same(x, l[k]) {
				t.Errorf("%d by %d: tile %d of what was joined is another one", m.W, m.H, k)
			}
		}
	})
}

// plainly is what Get is to tell, with each tile's cells laid one by one.
func plainly(b []byte) (m api.Map, code int) {
	if len(b) < 4 {
		return api.Map{}, api.ErrShort
	}
	w, h, at := int(b[0])+256*int(b[1]), int(b[2])+256*int(b[3]), 4
	if w < 1 || w > 1024 || h < 1 || h > 1024 {
		return api.Map{}, api.ErrForm
	}
	m = api.Map{W: w, H: h, C: make([]byte, w*h)}
	for top := 0; top < h; top += 16 {
		for left := 0; left < w; left += 16 {
			x, used, code := pack.Get(b[at:], min(16, w-left), min(16, h-top))
			if code != api.OK {
				return api.Map{}, code
			}
			at += used
			for i, cost := range x.C {
				m.C[(top+i/x.W)*w+left+i%x.W] = cost
			}
		}
	}
	if at < len(b) {
		return api.Map{}, api.ErrForm
	}
	return m, api.OK
}

func asPlainly(t *testing.T, b []byte) {
	t.Helper()
	m, code := plainly(b)
	if code != api.OK {
		refused(t, b, code)
		return
	}
	taken(t, b, m)
	if again, _ := atlas.Put(m); !bytes.Equal(again, b) {
		t.Errorf("%v is got, and put as %v", b, again)
	}
}

// TestNothingElseIsGot: of all rows of some bytes behind some sides, up to a length, just those are got that are put.
func TestNothingElseIsGot(t *testing.T) {
	for _, size := range [][2]byte{{1, 1}, {2, 1}, {1, 3}, {2, 2}, {17, 1}, {1, 17}} {
		got := 0
		all := [][]byte{{size[0], 0, size[1], 0}}
		for i := 0; i < len(all); i++ {
			b := all[i]
			m, code := atlas.Get(b)
			if code == api.OK {
				got++
				if again, _ := atlas.Put(m); !bytes.Equal(again, b) {
					t.Fatalf("%v is got, and put as %v", b, again)
				}
			}
			if want, c := plainly(b); c != code || !atlas.Same(m, want) {
				t.Fatalf("Get %v: %v, %d; not %v, %d", b, m, code, want, c)
			}
			if len(b) < 10 {
				for c := range byte(4) {
					all = append(all, slices.Concat(b, []byte{c}))
				}
			}
		}
		want := map[[2]byte]int{{1, 1}: 3, {2, 1}: 9, {1, 3}: 27, {2, 2}: 81, {17, 1}: 9, {1, 17}: 9}[size]
		if got != want {
			t.Errorf("%v: %d are got, not %d", size, got, want)
		}
	}
}

// TestGetOfSpoiltBytes: what is put, with bytes cut, changed, or twice there.
func TestGetOfSpoiltBytes(t *testing.T) {
	for _, m := range []api.Map{like(1, 1, 5), like(33, 20, 1), mixed(3, 4), mixed(17, 2), striped(20, 18), patched(40, 33), mixed(1, 35), striped(35, 1)} {
		b := bytesOf(m)
		for i := range b {
			for c := range 256 {
				y := bytes.Clone(b)
				y[i] = byte(c)
				asPlainly(t, y)
			}
			asPlainly(t, b[:i])
			asPlainly(t, slices.Delete(bytes.Clone(b), i, i+1))
			asPlainly(t, slices.Insert(bytes.Clone(b), i, b[i]))
		}
	}
}

func TestExampleOfOneByOne(t *testing.T) {
	if b, code := atlas.Put(api.Map{W: 1, H: 1, C: []byte{5}}); code != api.OK || string(b) != "\x01\x00\x01\x00\x00\x05" {
		t.Error(b, code)
	}
}
