package seeds_test

import (
	"bytes"
	"fmt"
	"math"
	"slices"
	"testing"

	"herdsman/api"
	"herdsman/grid"
	"herdsman/seeds"
	"herdsman/where"
)

// odd numbers: what a program may hand over by mistake. None is a local, a side or a Key.
var odd = []int{
	math.MinInt, math.MinInt + 1, -1 << 40, -1 << 32, -256, -17, -2, -1,
	math.MaxInt, math.MaxInt - 1, 1 << 62, api.Inf + 1, api.Inf, 1<<32 + 1, 1 << 32, 1 << 31, api.MaxKey + 1,
}

// ends are numbers of which a difference may wrap, and those beside the limits.
var ends = []int{
	math.MinInt, math.MinInt + 1, -1 << 32, -2, -1, 0, 1, 2, 255, 256, api.MaxKey, 1 << 32, 1<<32 + 1,
	api.Inf - 1, api.Inf, api.Inf + 1, math.MaxInt - 1, math.MaxInt,
}

// row of numbers, always the same one.
type row struct{ last uint64 }

func (r *row) below(n int) int {
	r.last = r.last*6364136223846793005 + 1442695040888963407
	return int(r.last >> 33 % uint64(n))
}

// few are seeds of which many are alike, or alike but for one of their parts.
func (r *row) few(n int) []api.Seed {
	l := make([]api.Seed, n)
	for i := range l {
		l[i] = api.Seed{Cell: r.below(4), Side: r.below(3), Key: r.below(4)}
	}
	return l
}

// wild are seeds of any numbers.
func (r *row) wild(n int) []api.Seed {
	l := make([]api.Seed, n)
	for i := range l {
		l[i] = api.Seed{Cell: ends[r.below(len(ends))], Side: ends[r.below(len(ends))], Key: ends[r.below(len(ends))]}
	}
	return l
}

// shuffled are the same seeds in another order.
func (r *row) shuffled(l []api.Seed) []api.Seed {
	out := slices.Clone(l)
	for i := range out {
		j := i + r.below(len(out)-i)
		out[i], out[j] = out[j], out[i]
	}
	return out
}

// lists are some of both kinds, from none on.
func lists() [][]api.Seed {
	numbers := row{8}
	out := [][]api.Seed{nil, {}}
	for n := 1; n < 40; n++ {
		out = append(out, numbers.few(n), numbers.wild(n))
	}
	return append(out, numbers.few(700), numbers.wild(700))
}

// laid is a tile of that size without walls.
func laid(w, h int) api.Tile {
	c := make([]byte, w*h)
	for i := range c {
		c[i] = byte(1 + i%254)
	}
	return api.Tile{W: w, H: h, C: c}
}

// here is a seed that any tile has at an open local.
func here(local int) api.Seed { return api.Seed{Cell: local, Side: api.Here} }

// may asks for one seed alone, and for it between two others that may be.
func may(t *testing.T, x api.Tile, s api.Seed, other int, want bool) {
	t.Helper()
	for _, l := range [][]api.Seed{{s}, {here(other), s}, {s, here(other)}, {s, s}} {
		if got := seeds.May(x, l); got != want {
			t.Fatalf("May of %d by %d, %v: %v", x.W, x.H, l, got)
		}
	}
}

// 8.1 May

func TestMayOfEachCellAndSideOfEachSize(t *testing.T) {
	for w := 1; w <= api.Span; w++ {
		for h := 1; h <= api.Span; h++ {
			x := laid(w, h)
			for local := range x.C {
				out := [4]bool{local < w, local%w == w-1, local/w == h-1, local%w == 0}
				for side := -2; side <= 8; side++ {
					want := side == api.Here || side >= api.North && side <= api.West && out[side]
					may(t, x, api.Seed{Cell: local, Side: side, Key: 5}, 0, want)
				}
			}
		}
	}
}

func TestMayTakesNoOtherSide(t *testing.T) {
	x := laid(1, 1) // over all four sides lies the tile's edge
	for side := api.North; side <= api.Here; side++ {
		may(t, x, api.Seed{Side: side}, 0, true)
	}
	for _, side := range append([]int{api.None, 6, 7, 255, 256, 260}, odd...) {
		may(t, x, api.Seed{Side: side}, 0, false)
	}
}

func TestMayTakesNoOtherCell(t *testing.T) {
	for _, size := range [][2]int{{1, 1}, {1, 16}, {16, 1}, {3, 2}, {16, 16}} {
		x := laid(size[0], size[1])
		n := len(x.C)
		for _, cell := range append([]int{n, n + 1, n + x.W, 2 * n, 257}, odd...) {
			for side := range 6 {
				may(t, x, api.Seed{Cell: cell, Side: side}, 0, false)
			}
		}
	}
	longer := laid(2, 3)
	longer.H, longer.C = 2, longer.C[:4]
	may(t, longer, here(4), 0, false)
}

func TestMayTakesOpenCellsOnly(t *testing.T) {
	for cost := 1; cost <= api.Wall; cost++ {
		x := api.Tile{W: 3, H: 1, C: []byte{7, byte(cost), 7}}
		for _, side := range []int{api.North, api.South, api.Here} {
			may(t, x, api.Seed{Cell: 1, Side: side, Key: 1}, 0, cost != api.Wall)
		}
		// A wall beside a cell, within the tile, is no way out.
		may(t, x, api.Seed{Cell: 0, Side: api.East}, 2, false)
		may(t, x, api.Seed{Cell: 2, Side: api.East}, 0, true)
	}
}

func TestMayTakesKeysFromZeroToMaxKey(t *testing.T) {
	x := laid(4, 4)
	for _, side := range []int{api.North, api.West, api.Here} {
		for _, key := range []int{0, 1, 254, 255, 256, 1 << 20, api.MaxKey - 1, api.MaxKey} {
			may(t, x, api.Seed{Side: side, Key: key}, 5, true)
		}
		for _, key := range odd {
			may(t, x, api.Seed{Side: side, Key: key}, 5, false)
		}
	}
}

func TestMayLooksAtEachSeed(t *testing.T) {
	x := laid(16, 16)
	var l []api.Seed
	for i := range 256 {
		l = append(l, api.Seed{Cell: 255 - i, Side: api.Here, Key: i * 7})
	}
	l = append(l, l...)
	if !seeds.May(x, l) {
		t.Fatal("in no order, and twice: may not be")
	}
	for i := range l {
		for _, s := range []api.Seed{{Cell: 256, Side: api.Here}, {Cell: 17}, {Side: api.Here, Key: -1}, {Side: api.None}} {
			was := l[i]
			l[i] = s
			if seeds.May(x, l) {
				t.Fatalf("%v at %d: may be", s, i)
			}
			if !seeds.May(x, l[:i]) {
				t.Fatalf("%v behind the list's end was read", s)
			}
			l[i] = was
		}
	}
}

func TestMayWithoutSeedsAsksForTheTile(t *testing.T) {
	if x := laid(5, 7); !seeds.May(x, nil) || !seeds.May(x, []api.Seed{}) {
		t.Error("no seeds: may not be")
	}
	if x := (api.Tile{W: 1, H: 1, C: []byte{api.Wall}}); !seeds.May(x, nil) || seeds.May(x, []api.Seed{here(0)}) {
		t.Error("a wall alone")
	}
	ones := bytes.Repeat([]byte{1}, 300)
	for _, x := range []api.Tile{
		{}, {W: 1, H: 1}, {W: 1, H: 1, C: []byte{0}}, {W: 2, H: 2, C: ones[:3]}, {W: 2, H: 2, C: ones[:5]},
		{W: -1, H: -1, C: ones[:1]}, {W: 0, H: 1}, {W: 17, H: 1, C: ones[:17]}, {W: 1, H: 17, C: ones[:17]},
		{W: 17, H: 17, C: ones[:289]}, {W: 1 << 32, H: 1 << 32}, {W: math.MinInt + 1, H: math.MinInt + 1, C: ones[:1]},
		{W: math.MaxInt, H: 1, C: ones[:1]}, {W: 3, H: 1, C: []byte{1, 1, 0}},
	} {
		for _, l := range [][]api.Seed{nil, {}, {here(0)}, {{Side: api.North}}, {{Cell: -1}}} {
			if seeds.May(x, l) {
				t.Errorf("%d by %d with %d costs, %v: may be", x.W, x.H, len(x.C), l)
			}
		}
	}
}

// 8.1 Sort

// least is the list that Sort shall make, by taking the least one that is greater than the last one, again and again.
func least(l []api.Seed) []api.Seed {
	var out []api.Seed
	for {
		var next *api.Seed
		for i := range l {
			if (len(out) == 0 || before(out[len(out)-1], l[i])) && (next == nil || before(l[i], *next)) {
				next = &l[i]
			}
		}
		if next == nil {
			return out
		}
		out = append(out, *next)
	}
}

func before(a, b api.Seed) bool {
	if a.Key != b.Key {
		return a.Key < b.Key
	}
	if a.Cell != b.Cell {
		return a.Cell < b.Cell
	}
	return a.Side < b.Side
}

func TestSortTold(t *testing.T) {
	l := []api.Seed{{Cell: 3, Side: 2, Key: 5}, {Cell: 9, Side: 0, Key: 4}, {Cell: 3, Side: 1, Key: 5}, {Cell: 2, Side: 4, Key: 5}, {Cell: 3, Side: 2, Key: 5}, {Cell: 0, Side: 0, Key: 6}}
	want := []api.Seed{{Cell: 9, Side: 0, Key: 4}, {Cell: 2, Side: 4, Key: 5}, {Cell: 3, Side: 1, Key: 5}, {Cell: 3, Side: 2, Key: 5}, {Cell: 0, Side: 0, Key: 6}}
	if got := seeds.Sort(l); !slices.Equal(got, want) {
		t.Error(got)
	}
}

func TestSortOfAny(t *testing.T) {
	for _, l := range lists() {
		if got, want := seeds.Sort(l), least(l); !slices.Equal(got, want) {
			t.Fatalf("Sort of %v: %v; not %v", l, got, want)
		}
	}
}

func TestSortComparesWithoutWrap(t *testing.T) {
	for i, a := range ends {
		for _, b := range ends[i:] {
			for _, pair := range [][2]api.Seed{{{Key: a}, {Key: b}}, {{Cell: a}, {Cell: b}}, {{Side: a}, {Side: b}}, {{Key: a, Cell: b, Side: b}, {Key: b, Cell: a, Side: a}}} {
				want := pair[:]
				if a == b {
					want = pair[:1]
				}
				for _, l := range [][]api.Seed{{pair[0], pair[1]}, {pair[1], pair[0]}, {pair[1], pair[0], pair[1], pair[0]}} {
					if got := seeds.Sort(l); !slices.Equal(got, want) {
						t.Fatalf("Sort of %v: %v", l, got)
					}
				}
			}
		}
	}
}

func TestSortLeavesWhatIsHandedIn(t *testing.T) {
	for _, l := range lists() {
		// What waits behind the list's end is alike what is in it, so that it would be found missing.
		whole := append(slices.Clone(l), l...)
		was := slices.Clone(whole)
		got := seeds.Sort(whole[:len(l)])
		want := slices.Clone(got)
		got = got[:cap(got)]
		for i := range got {
			got[i] = api.Seed{Cell: -7, Side: -7, Key: -7}
		}
		if !slices.Equal(whole, was) {
			t.Fatalf("Sort of %v has changed it", l)
		}
		if again := seeds.Sort(whole[:len(l)]); !slices.Equal(again, want) {
			t.Fatalf("Sort of %v: %v, then %v", l, want, again)
		}
	}
	l := []api.Seed{here(2), here(1)}
	got := seeds.Sort(l)
	l[0], l[1] = here(8), here(9)
	if !slices.Equal(got, []api.Seed{here(1), here(2)}) {
		t.Error("what is handed in is kept:", got)
	}
}

func TestSortIsNewMemoryWhereNothingIsToDo(t *testing.T) {
	for _, l := range [][]api.Seed{{here(4)}, {here(1), here(2), here(3)}} {
		was := slices.Clone(l)
		seeds.Sort(l)[0] = here(200)
		if !slices.Equal(l, was) {
			t.Error(l)
		}
	}
}

// 8.1 Same

func TestSameOfAny(t *testing.T) {
	all := lists()
	for i, a := range all {
		if !seeds.Same(a, slices.Clone(a)) {
			t.Fatalf("%v: unlike itself", a)
		}
		for j, b := range all {
			if want := i == j || len(a)+len(b) == 0; seeds.Same(a, b) != want {
				t.Fatalf("Same(%v, %v): %v", a, b, !want)
			}
		}
	}
}

func TestSameAsksForEachPartOfEachSeed(t *testing.T) {
	numbers := row{3}
	for n := 1; n < 12; n++ {
		a := numbers.few(n)
		for i := range a {
			for _, by := range []int{1, -1, 1 << 8, 1 << 32, math.MinInt} {
				for _, other := range []api.Seed{
					{Cell: a[i].Cell + by, Side: a[i].Side, Key: a[i].Key},
					{Cell: a[i].Cell, Side: a[i].Side + by, Key: a[i].Key},
					{Cell: a[i].Cell, Side: a[i].Side, Key: a[i].Key + by},
				} {
					b := slices.Clone(a)
					b[i] = other
					if seeds.Same(a, b) || seeds.Same(b, a) {
						t.Fatalf("Same(%v, %v)", a, b)
					}
				}
			}
		}
	}
}

func TestSameAsksForLengthAndOrder(t *testing.T) {
	a := []api.Seed{here(1), here(2), here(2)}
	for _, b := range [][]api.Seed{nil, a[:1], a[:2], {here(2), here(1), here(2)}, append(slices.Clone(a), here(2))} {
		if seeds.Same(a, b) || seeds.Same(b, a) {
			t.Errorf("Same(%v, %v)", a, b)
		}
	}
	if !seeds.Same(nil, nil) || !seeds.Same(nil, []api.Seed{}) || !seeds.Same([]api.Seed{}, nil) {
		t.Error("a nil list and an empty one are unlike")
	}
	b := []api.Seed{here(1), here(2), here(9)}
	if !seeds.Same(a[:2], b[:2]) {
		t.Error("what lies behind the ends was read")
	}
}

// 8.2

func TestExample(t *testing.T) {
	l := []api.Seed{{Cell: 3, Side: api.East, Key: 9}, {Cell: 3, Side: api.East, Key: 7}}
	if got := seeds.Best(l, 3, api.East); got != 7 {
		t.Error(got)
	}
	if got := seeds.Best(l, 3, api.West); got != api.Inf {
		t.Error(got)
	}
}

func TestExampleOfTheWhole(t *testing.T) {
	l := []api.Seed{{Cell: 15, Side: api.East, Key: 17}}
	if !seeds.May(laid(16, 3), l) || seeds.Best(l, 15, api.East) != 17 {
		t.Error("by the east side of local 15 the goal is 17 away")
	}
}

// best goes over sorted Keys, instead of holding each against the least one so far.
func best(l []api.Seed, cell, side int) int {
	var keys []int
	for _, s := range l {
		if s.Cell == cell && s.Side == side {
			keys = append(keys, s.Key)
		}
	}
	if len(keys) == 0 {
		return api.Inf
	}
	slices.Sort(keys)
	return keys[0]
}

// asked are the cells and sides of the seeds, and some that they may not have.
func asked(l []api.Seed) [][2]int {
	out := [][2]int{{0, 0}, {-1, 0}, {0, -1}, {3, api.Here}, {3, api.None}, {math.MinInt, math.MaxInt}, {math.MaxInt, math.MinInt}}
	for _, s := range l {
		out = append(out, [2]int{s.Cell, s.Side}, [2]int{s.Side, s.Cell}, [2]int{s.Cell, s.Key}, [2]int{s.Cell, s.Side ^ 1}, [2]int{s.Cell ^ 1, s.Side})
	}
	return out
}

func TestBestOfAny(t *testing.T) {
	for _, l := range lists() {
		was := slices.Clone(l)
		for _, x := range asked(l) {
			if got, want := seeds.Best(l, x[0], x[1]), best(l, x[0], x[1]); got != want {
				t.Fatalf("Best(%v, %d, %d): %d; not %d", l, x[0], x[1], got, want)
			}
		}
		if !slices.Equal(l, was) {
			t.Fatalf("%v: changed", was)
		}
	}
}

func TestBestOfKeysAboutInf(t *testing.T) {
	for _, a := range ends {
		for _, b := range ends {
			l := []api.Seed{{Cell: 4, Side: 1, Key: a}, {Cell: 4, Side: 2, Key: math.MinInt}, {Cell: 4, Side: 1, Key: b}, {Cell: 5, Side: 1, Key: math.MinInt}}
			if got := seeds.Best(l, 4, 1); got != min(a, b) {
				t.Errorf("of %d and %d: %d", a, b, got)
			}
		}
	}
}

func TestBestReadsTheListOnly(t *testing.T) {
	l := []api.Seed{{Cell: 1, Side: 1, Key: 9}, {Cell: 1, Side: 1, Key: 3}}
	if got := seeds.Best(l[:1], 1, 1); got != 9 {
		t.Error(got)
	}
	if got := seeds.Best(l[:0], 1, 1); got != api.Inf {
		t.Error(got)
	}
}

// 8.3

func TestSortedTwiceIsAsOnce(t *testing.T) {
	for _, l := range lists() {
		once := seeds.Sort(l)
		if twice := seeds.Sort(once); !seeds.Same(once, twice) || !slices.Equal(once, twice) {
			t.Fatalf("Sort of %v: %v, then %v", l, once, twice)
		}
	}
}

// orders calls see with each order of the seeds from the given place on.
func orders(l []api.Seed, from int, see func(l []api.Seed)) {
	if from == len(l) {
		see(l)
		return
	}
	for i := from; i < len(l); i++ {
		l[from], l[i] = l[i], l[from]
		orders(l, from+1, see)
		l[from], l[i] = l[i], l[from]
	}
}

func TestNoOrderOfAFewMatters(t *testing.T) {
	x := laid(3, 3)
	numbers := row{1}
	for range 20 {
		l := numbers.few(5)
		sorted, ok := seeds.Sort(l), seeds.May(x, l)
		orders(slices.Clone(l), 0, func(m []api.Seed) {
			if !seeds.Same(seeds.Sort(m), sorted) || seeds.May(x, m) != ok {
				t.Fatalf("%v: unlike %v", m, l)
			}
			for _, q := range asked(l) {
				if seeds.Best(m, q[0], q[1]) != seeds.Best(l, q[0], q[1]) {
					t.Fatalf("%v: unlike %v at %v", m, l, q)
				}
			}
		})
	}
}

func TestNoOrderAndNoneThatIsThereTwiceMatters(t *testing.T) {
	numbers := row{2}
	x := laid(16, 16)
	for _, l := range lists() {
		m := numbers.shuffled(append(slices.Clone(l), l[:len(l)/2]...))
		sorted := seeds.Sort(l)
		if !seeds.Same(sorted, seeds.Sort(m)) {
			t.Fatalf("Sort of %v: unlike %v", m, l)
		}
		if seeds.May(x, l) != seeds.May(x, m) || seeds.May(x, l) != seeds.May(x, sorted) {
			t.Fatalf("May of %v: unlike %v", m, l)
		}
		for _, q := range asked(l) {
			want := seeds.Best(l, q[0], q[1])
			if seeds.Best(m, q[0], q[1]) != want || seeds.Best(sorted, q[0], q[1]) != want {
				t.Fatalf("Best of %v: unlike %v at %v", m, l, q)
			}
		}
	}
}

func TestSortLosesAndAddsNothing(t *testing.T) {
	for _, l := range lists() {
		sorted := seeds.Sort(l)
		for _, s := range l {
			if !slices.Contains(sorted, s) {
				t.Fatalf("Sort of %v: %v is missing", l, s)
			}
		}
		for i, s := range sorted {
			if !slices.Contains(l, s) || slices.Contains(sorted[:i], s) {
				t.Fatalf("Sort of %v: %v", l, s)
			}
		}
	}
}

// T8

// overall is how far each cell of the map is from the goal, by going over all cells till nothing lessens.
func overall(m api.Map, goal int) []int {
	far := slices.Repeat([]int{api.Inf}, len(m.C))
	if m.C[goal] == api.Wall {
		return far
	}
	far[goal] = 0
	settle(far, func(cell, side int) (int, int) {
		n := where.Step(m.W, m.H, cell, side)
		if n < 0 || m.C[n] == api.Wall || m.C[cell] == api.Wall {
			return -1, 0
		}
		return n, int(m.C[n])
	})
	return far
}

// settle lessens each distance by what the places beside it tell, till none does any more.
func settle(far []int, step func(place, side int) (next, cost int)) {
	for changed := true; changed; {
		changed = false
		for place := range far {
			for side := api.North; side <= api.West; side++ {
				if n, cost := step(place, side); n >= 0 && far[n]+cost < far[place] {
					far[place] = far[n] + cost
					changed = true
				}
			}
		}
	}
}

// outside are a sector's seeds, out of the distances of the cells about it, the last one first.
func outside(m api.Map, far []int, goal, sector int) []api.Seed {
	var l []api.Seed
	for cell := len(m.C) - 1; cell >= 0; cell-- {
		if where.Sector(m.W, m.H, cell) != sector || m.C[cell] == api.Wall {
			continue
		}
		local := where.Local(m.W, m.H, cell)
		if cell == goal {
			l = append(l, here(local))
		}
		for side := api.West; side >= api.North; side-- {
			n := where.Step(m.W, m.H, cell, side)
			if n >= 0 && where.Sector(m.W, m.H, n) != sector && far[n] < api.Inf {
				l = append(l, api.Seed{Cell: local, Side: side, Key: int(m.C[n]) + far[n]})
			}
		}
	}
	return l
}

// within is how far each local is from the goal, as its tile and its seeds alone tell.
func within(x api.Tile, l []api.Seed) []int {
	far := make([]int, len(x.C))
	for local := range far {
		far[local] = api.Inf
		for side := api.North; side <= api.Here; side++ {
			far[local] = min(far[local], seeds.Best(l, local, side))
		}
	}
	settle(far, func(local, side int) (int, int) {
		n := where.Step(x.W, x.H, local, side)
		if n < 0 || x.C[n] == api.Wall || x.C[local] == api.Wall {
			return -1, 0
		}
		return n, int(x.C[n])
	})
	return far
}

// kept is what a shelf would keep of a sector.
type kept struct {
	version int64
	l       []api.Seed
	field   []int
}

// check holds the sector's field, of its seeds alone and of what is kept, against the map's distances.
func check(t *testing.T, g *grid.Grid, far []int, goal, sector int, old kept) (kept, bool) {
	t.Helper()
	m := g.Map()
	x, _ := g.Tile(sector)
	raw := outside(m, far, goal, sector)
	now := kept{g.Version(sector), seeds.Sort(raw), nil}
	if !seeds.May(x, raw) || !seeds.May(x, now.l) {
		t.Fatalf("sector %d: %v may not be", sector, now.l)
	}
	now.field = within(x, now.l)
	want := make([]int, len(x.C))
	for local := range want {
		want[local] = far[where.Global(m.W, m.H, sector, local)]
	}
	if !slices.Equal(now.field, want) || !slices.Equal(within(x, raw), want) {
		t.Fatalf("sector %d: %v of %v; not %v", sector, now.field, raw, want)
	}
	serves := old.version == now.version && seeds.Same(old.l, now.l)
	if serves && !slices.Equal(old.field, want) {
		t.Fatalf("sector %d: what is kept is served, but not right", sector)
	}
	if serves != (old.version == now.version && fmt.Sprint(old.l) == fmt.Sprint(now.l)) {
		t.Fatalf("sector %d: %v, then %v: Same is %v", sector, old.l, now.l, serves)
	}
	return now, serves
}

func TestWhatIsKeptServesJustWhereItIsRight(t *testing.T) {
	const w, h = 20, 18
	numbers := row{5}
	cost := func() int {
		if numbers.below(4) == 0 {
			return api.Wall
		}
		return 1 + numbers.below(254)
	}
	m := api.Map{W: w, H: h, C: make([]byte, w*h)}
	for i := range m.C {
		m.C[i] = byte(cost())
	}
	g := grid.New(m, 0)
	for _, goal := range []int{0, 15, 16, 5*w + 9, w*h - 1} {
		g.Edit(goal, 7)
		served, stale := 0, 0
		var shelf [4]kept
		for step := range 60 {
			if step > 0 {
				g.Edit(numbers.below(w*h), cost())
			}
			far := overall(g.Map(), goal)
			for sector := range shelf {
				version := shelf[sector].version
				now, serves := check(t, g, far, goal, sector, shelf[sector])
				if serves {
					served++
				} else if version == now.version {
					stale++
				}
				shelf[sector] = now
			}
		}
		if served == 0 || stale == 0 {
			t.Errorf("goal %d: served %d, other seeds %d", goal, served, stale)
		}
	}
}

// Rule 2

func TestNothingHandedInIsChanged(t *testing.T) {
	x := laid(4, 4)
	costs := bytes.Clone(x.C)
	for _, l := range lists() {
		was := slices.Clone(l)
		seeds.May(x, l)
		seeds.Sort(l)
		seeds.Same(l, l)
		seeds.Best(l, 1, 1)
		if !slices.Equal(l, was) {
			t.Fatalf("%v: changed", was)
		}
	}
	if !bytes.Equal(x.C, costs) {
		t.Error("the tile: changed")
	}
}
