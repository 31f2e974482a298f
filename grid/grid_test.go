package grid_test

import (
	"bytes"
	"fmt"
	"math"
	"slices"
	"testing"

	"herdsman/api"
	"herdsman/atlas"
	"herdsman/grid"
	"herdsman/tile"
)

// sizes that may be: the least, one row, one column, whole sectors, last ones that are smaller, the greatest.
var sizes = [][2]int{
	{1, 1}, {1, 2}, {2, 1}, {3, 5}, {15, 16}, {16, 15}, {16, 16}, {16, 17}, {17, 16}, {17, 17}, {20, 3},
	{1, 17}, {17, 1}, {32, 48}, {40, 33}, {1, 1024}, {1024, 1}, {1023, 18}, {1024, 1024},
}

// odd numbers: what a program may hand over by mistake. None is a cell, a sector or a cost.
var odd = []int{
	math.MinInt, math.MinInt + 1, -1 << 32, -1<<32 + 1, -1025, -256, -255, -17, -16, -2, -1,
	math.MaxInt, math.MaxInt - 1, 1 << 62, 1 << 40, 1<<32 + 1, 1 << 32, 1 << 20,
}

// epochs that may be.
var epochs = []int64{0, 1, 2, 41, 1<<31 - 1, 1 << 31, 1 << 32, 1<<53 + 1, 1<<62 - 1, 1 << 62}

// mixed is a map of that size whose costs go round through all that there are, Wall among them.
func mixed(w, h int) api.Map {
	m := api.Map{W: w, H: h, C: make([]byte, w*h)}
	for i := range m.C {
		m.C[i] = byte(1 + (254+i*37+i/w*11)%255)
	}
	return m
}

// like is a map of that size whose costs are all alike.
func like(w, h int, cost byte) api.Map {
	return api.Map{W: w, H: h, C: bytes.Repeat([]byte{cost}, w*h)}
}

// tilesOf a map, found by going over it sector by sector and cell by cell.
func tilesOf(m api.Map) []api.Tile {
	var out []api.Tile
	for top := 0; top < m.H; top += 16 {
		for left := 0; left < m.W; left += 16 {
			t := api.Tile{W: min(16, m.W-left), H: min(16, m.H-top)}
			for y := top; y < top+t.H; y++ {
				t.C = append(t.C, m.C[y*m.W+left:y*m.W+left+t.W]...)
			}
			out = append(out, t)
		}
	}
	return out
}

// sectorsOf a size: of each cell its sector, found by counting; and how many there are.
func sectorsOf(w, h int) (of []int, count int) {
	of = make([]int, w*h)
	for top := 0; top < h; top += 16 {
		for left := 0; left < w; left += 16 {
			for y := top; y < min(top+16, h); y++ {
				for x := left; x < min(left+16, w); x++ {
					of[y*w+x] = count
				}
			}
			count++
		}
	}
	return of, count
}

// twin is what a grid is to be, kept plainly beside it.
type twin struct {
	m        api.Map
	of       []int // by cell: its sector
	epoch    int64
	versions []int64
}

// pair is a grid and its twin.
func pair(t *testing.T, m api.Map, epoch int64) (*grid.Grid, *twin) {
	t.Helper()
	g := grid.New(m, epoch)
	if g == nil {
		t.Fatalf("New of %d by %d, epoch %d: nil", m.W, m.H, epoch)
	}
	of, count := sectorsOf(m.W, m.H)
	return g, &twin{
		m:        api.Map{W: m.W, H: m.H, C: bytes.Clone(m.C)},
		of:       of,
		epoch:    epoch + 1,
		versions: slices.Repeat([]int64{epoch + 1}, count),
	}
}

// edit lays a cost that may be laid.
func (x *twin) edit(cell, cost int) {
	x.m.C[cell] = byte(cost)
	x.epoch++
	x.versions[x.of[cell]] = x.epoch
}

// agree asks a grid all that can be asked.
func agree(t *testing.T, g *grid.Grid, x *twin) {
	t.Helper()
	if w, h := g.Size(); w != x.m.W || h != x.m.H {
		t.Fatalf("Size: %d, %d; not %d, %d", w, h, x.m.W, x.m.H)
	}
	if g.Epoch() != x.epoch {
		t.Fatalf("Epoch: %d; not %d", g.Epoch(), x.epoch)
	}
	for cell, cost := range x.m.C {
		if g.Cost(cell) != int(cost) {
			t.Fatalf("Cost of %d: %d; not %d", cell, g.Cost(cell), cost)
		}
	}
	if m := g.Map(); m.W != x.m.W || m.H != x.m.H || !bytes.Equal(m.C, x.m.C) {
		t.Fatalf("Map: %d by %d: not the costs now", m.W, m.H)
	}
	for sector, want := range tilesOf(x.m) {
		if got := g.Version(sector); got != x.versions[sector] {
			t.Fatalf("Version of %d: %d; not %d", sector, got, x.versions[sector])
		}
		if got, ok := g.Tile(sector); !ok || got.W != want.W || got.H != want.H || !bytes.Equal(got.C, want.C) {
			t.Fatalf("Tile of %d: %v, %v; not %v", sector, got, ok, want)
		}
	}
	nothingBeyond(t, g, len(x.m.C), len(x.versions))
}

// nothingBeyond asks of numbers that are no cell and no sector.
func nothingBeyond(t *testing.T, g *grid.Grid, cells, sectors int) {
	t.Helper()
	for _, cell := range append([]int{cells, cells + 1, cells + 16}, odd...) {
		if got := g.Cost(cell); got != 0 {
			t.Fatalf("Cost of %d, no cell: %d", cell, got)
		}
	}
	for _, sector := range append([]int{sectors, sectors + 1, sectors + 64}, odd...) {
		if got := g.Version(sector); got != 0 {
			t.Fatalf("Version of %d, no sector: %d", sector, got)
		}
		if got, ok := g.Tile(sector); ok || got.W != 0 || got.H != 0 || len(got.C) != 0 {
			t.Fatalf("Tile of %d, no sector: %v, %v", sector, got, ok)
		}
	}
}

// row of numbers that looks like no order, the same each time.
type row uint64

func (r *row) next(below int) int {
	*r = *r*6364136223846793005 + 1442695040888963407
	return int(uint64(*r) >> 33 % uint64(below))
}

// 5.1

func TestNewOfEachSize(t *testing.T) {
	for i, s := range sizes {
		g, x := pair(t, mixed(s[0], s[1]), epochs[i%len(epochs)])
		agree(t, g, x)
	}
}

func TestNewOfEachEpoch(t *testing.T) {
	for _, epoch := range epochs {
		g, x := pair(t, mixed(20, 17), epoch)
		agree(t, g, x)
	}
	for _, epoch := range []int64{-1, -2, -1 << 32, math.MinInt64, math.MinInt64 + 1, 1<<62 + 1, 1<<62 + 2, math.MaxInt64 - 1, math.MaxInt64} {
		if grid.New(mixed(20, 17), epoch) != nil {
			t.Errorf("epoch %d: there is a grid", epoch)
		}
	}
}

func TestNewOfAMapThatMayNotBe(t *testing.T) {
	bad := map[string]api.Map{
		"nothing":               {},
		"only costs":            {C: []byte{1}},
		"no costs":              {W: 1, H: 1},
		"a cost of 0":           {W: 1, H: 1, C: []byte{0}},
		"0 at the end":          {W: 3, H: 1, C: []byte{1, 1, 0}},
		"0 within":              {W: 1, H: 3, C: []byte{1, 0, 1}},
		"one too few":           {W: 2, H: 2, C: []byte{1, 1, 1}},
		"one too many":          {W: 2, H: 2, C: []byte{1, 1, 1, 1, 1}},
		"enough behind the end": {W: 2, H: 2, C: []byte{1, 1, 1, 1}[:3]},
		"too wide":              like(1025, 1, 1),
		"too high":              like(1, 1025, 1),
		"as many, too wide":     like(2048, 512, 1),
		"sides below 0":         {W: -2, H: -2, C: []byte{1, 1, 1, 1}},
		"sides wrap to 0":       {W: 1 << 32, H: 1 << 32},
		"sides wrap to 1":       {W: math.MaxInt, H: math.MaxInt, C: []byte{1}},
	}
	for _, side := range append([]int{0, 1025}, odd...) {
		bad[fmt.Sprint("W ", side)] = api.Map{W: side, H: 1, C: []byte{1}}
		bad[fmt.Sprint("H ", side)] = api.Map{W: 1, H: side, C: []byte{1}}
	}
	for name, m := range bad {
		before := bytes.Clone(m.C)
		for _, epoch := range []int64{0, 1, 1 << 62, -1, math.MaxInt64} {
			if grid.New(m, epoch) != nil {
				t.Errorf("%q, epoch %d: there is a grid", name, epoch)
			}
		}
		if !bytes.Equal(m.C, before) {
			t.Errorf("%q: changed", name)
		}
	}
}

func TestNewKeepsNothingThatIsHandedIn(t *testing.T) {
	for _, s := range [][2]int{{1, 1}, {16, 16}, {40, 33}} {
		m := mixed(s[0], s[1])
		m.C = append(m.C, 9)[:len(m.C)] // with room behind, of which nothing is the grid's
		g, x := pair(t, m, 3)
		other, y := pair(t, m, 3)
		for i := range m.C {
			m.C[i] = byte(1 + i%3)
		}
		agree(t, g, x)
		before := bytes.Clone(m.C)
		for cell := range m.C {
			g.Edit(cell, 200)
			x.edit(cell, 200)
		}
		agree(t, g, x)
		agree(t, other, y)
		if !bytes.Equal(m.C, before) || m.C[:len(m.C)+1][len(m.C)] != 9 {
			t.Errorf("%v: what was handed in has changed", s)
		}
	}
}

func TestWhatStandsBehindTheCostsIsNotAsked(t *testing.T) {
	m := api.Map{W: 2, H: 1, C: []byte{5, 6, 0, 7}[:2]}
	g, x := pair(t, m, 0)
	agree(t, g, x)
}

// 5.2

func TestEditOfEachCell(t *testing.T) {
	for _, s := range [][2]int{{1, 1}, {3, 5}, {16, 16}, {17, 17}, {20, 3}, {40, 33}} {
		g, x := pair(t, mixed(s[0], s[1]), 7)
		for cell := range x.m.C {
			cost := 1 + (cell*29+s[0])%255
			if code := g.Edit(cell, cost); code != api.OK {
				t.Fatalf("%v: Edit(%d, %d): %d", s, cell, cost, code)
			}
			x.edit(cell, cost)
			if cell%7 == 0 || cell < 40 {
				agree(t, g, x)
			}
		}
		agree(t, g, x)
	}
}

func TestEditOfTheGreatestMap(t *testing.T) {
	g, x := pair(t, mixed(1024, 1024), 1<<62)
	for _, cell := range []int{0, 15, 16, 1023, 1024, 15 * 1024, 16 * 1024, 1<<20 - 1024, 1<<20 - 1} {
		if code := g.Edit(cell, 255); code != api.OK {
			t.Fatalf("Edit of %d: %d", cell, code)
		}
		x.edit(cell, 255)
	}
	agree(t, g, x)
}

func TestEditOfEachCost(t *testing.T) {
	g, x := pair(t, mixed(20, 17), 0)
	for cost := -300; cost <= 600; cost++ {
		code := g.Edit(21, cost)
		if 1 <= cost && cost <= 255 {
			x.edit(21, cost)
			if code != api.OK || g.Cost(21) != cost {
				t.Fatalf("cost %d: code %d, there is %d", cost, code, g.Cost(21))
			}
		} else if code != api.ErrCost {
			t.Fatalf("cost %d: code %d", cost, code)
		}
		agree(t, g, x)
	}
}

func TestWhatEditRefusesChangesNothing(t *testing.T) {
	g, x := pair(t, mixed(20, 17), 4)
	costs := append([]int{0, 1, 7, 255, 256, 257, 511, 512}, odd...)
	for _, cost := range costs {
		for _, cell := range append([]int{340, 341, 356, 1024}, odd...) {
			if code := g.Edit(cell, cost); code != api.ErrBounds { // it is told ahead of a wrong cost, too
				t.Errorf("Edit(%d, %d): %d", cell, cost, code)
			}
		}
		if 1 <= cost && cost <= 255 {
			continue
		}
		for _, cell := range []int{0, 16, 339} {
			if code := g.Edit(cell, cost); code != api.ErrCost {
				t.Errorf("Edit(%d, %d): %d", cell, cost, code)
			}
		}
	}
	agree(t, g, x)
	if g.Edit(339, 1) != api.OK || g.Epoch() != 6 {
		t.Error("refused edits are counted")
	}
}

func TestEditOfTheSameCostCountsToo(t *testing.T) {
	g, x := pair(t, mixed(33, 20), 10)
	for range 3 {
		for _, cell := range []int{0, 32, 659, 32} {
			if code := g.Edit(cell, g.Cost(cell)); code != api.OK {
				t.Fatal(cell, code)
			}
			x.edit(cell, int(x.m.C[cell]))
			agree(t, g, x)
		}
	}
	if g.Epoch() != 23 || !atlas.Same(g.Map(), mixed(33, 20)) {
		t.Error("epoch", g.Epoch())
	}
}

func TestAnswersAreNewMemory(t *testing.T) {
	for _, s := range [][2]int{{1, 1}, {16, 16}, {16, 40}, {40, 33}} {
		g, x := pair(t, mixed(s[0], s[1]), 0)
		a, b := g.Map(), g.Map()
		c, _ := g.Tile(0)
		d, _ := g.Tile(0)
		wantB, wantD := bytes.Clone(b.C), bytes.Clone(d.C)
		for _, l := range [][]byte{a.C, c.C} {
			for i := range l {
				l[i] = 0
			}
			_ = append(l, 78)
		}
		agree(t, g, x)
		g.Edit(0, 3+g.Cost(0)%9)
		if !bytes.Equal(b.C, wantB) || !bytes.Equal(d.C, wantD) {
			t.Errorf("%v: an answer shares memory", s)
		}
	}
}

func TestNoGrid(t *testing.T) {
	none := grid.New(api.Map{}, 0)
	if none != nil {
		t.Fatal("a grid of nothing")
	}
	for _, n := range append([]int{0, 1, 16}, odd...) {
		for _, cost := range []int{0, 1, 255, 256, -1} {
			if code := none.Edit(n, cost); code != api.ErrNoMap {
				t.Errorf("Edit(%d, %d): %d", n, cost, code)
			}
		}
	}
	if w, h := none.Size(); w != 0 || h != 0 {
		t.Error(w, h)
	}
	if m := none.Map(); m.W != 0 || m.H != 0 || len(m.C) != 0 {
		t.Error(m)
	}
	if none.Epoch() != 0 {
		t.Error(none.Epoch())
	}
	nothingBeyond(t, none, 0, 0)
}

func TestAGridThatNewDidNotMake(t *testing.T) {
	g := &grid.Grid{}
	if w, h := g.Size(); w != 0 || h != 0 || g.Epoch() != 0 || len(g.Map().C) != 0 || g.Edit(0, 1) != api.ErrBounds {
		t.Error("it is not empty")
	}
	nothingBeyond(t, g, 0, 0)
}

// 5.3

// TestManyEdits: what may be laid and what may not, in no order, beside a twin.
func TestManyEdits(t *testing.T) {
	for i, s := range [][2]int{{1, 1}, {2, 40}, {17, 17}, {33, 20}, {48, 31}} {
		g, x := pair(t, mixed(s[0], s[1]), epochs[len(epochs)-1-i])
		r := row(i)
		for range 600 {
			cell, cost := r.next(s[0]*s[1]+6)-3, r.next(260)-2
			want := api.OK
			if cost < 1 || cost > 255 {
				want = api.ErrCost
			}
			if cell < 0 || cell >= s[0]*s[1] {
				want = api.ErrBounds
			}
			if want == api.OK {
				x.edit(cell, cost)
			}
			if code := g.Edit(cell, cost); code != want {
				t.Fatalf("%v: Edit(%d, %d): %d; not %d", s, cell, cost, code, want)
			}
			agree(t, g, x)
		}
	}
}

func TestVersionsRiseWithEditsOfTheirOwnSectorAlone(t *testing.T) {
	of, count := sectorsOf(40, 33)
	g := grid.New(mixed(40, 33), 5)
	greatest := g.Epoch()
	for cell, own := range of {
		var before []int64
		for sector := range count {
			before = append(before, g.Version(sector))
		}
		g.Edit(cell, 1+cell%255)
		for sector := range count {
			v := g.Version(sector)
			if (sector == own) != (v > before[sector]) || (sector != own) != (v == before[sector]) {
				t.Fatalf("Edit of %d, in sector %d: Version of %d was %d, is %d", cell, own, sector, before[sector], v)
			}
			greatest = max(greatest, v)
		}
		if g.Epoch() != greatest {
			t.Fatalf("Epoch %d, the greatest version is %d", g.Epoch(), greatest)
		}
	}
}

func TestTilesAreThoseOfTheMap(t *testing.T) {
	g := grid.New(mixed(40, 33), 0)
	r := row(9)
	for range 50 {
		g.Edit(r.next(40*33), 1+r.next(255))
		var l []api.Tile
		for sector := range 9 {
			x, ok := g.Tile(sector)
			want, _ := atlas.Tile(g.Map(), sector)
			if !ok || !tile.Same(x, want) {
				t.Fatalf("tile %d: %v, %v; not %v", sector, x, ok, want)
			}
			l = append(l, x)
		}
		if m, ok := atlas.Join(40, 33, l); !ok || !atlas.Same(m, g.Map()) {
			t.Fatal("the tiles are not the map")
		}
	}
}

func TestTwoGridsKnowNothingOfEachOther(t *testing.T) {
	a, x := pair(t, mixed(20, 17), 0)
	b, y := pair(t, a.Map(), a.Epoch())
	a.Edit(3, 77)
	x.edit(3, 77)
	b.Edit(339, 78)
	y.edit(339, 78)
	agree(t, a, x)
	agree(t, b, y)
}

func TestExample(t *testing.T) {
	g := grid.New(api.Map{W: 2, H: 1, C: []byte{1, 1}}, 0)
	if g.Edit(1, 4) != api.OK || g.Epoch() != 2 {
		t.Error(g.Epoch())
	}
}
