package steer_test

import (
	"bytes"
	"fmt"
	"math"
	"slices"
	"testing"

	"herdsman/api"
	"herdsman/atlas"
	"herdsman/seeds"
	"herdsman/steer"
	"herdsman/sweep"
	"herdsman/where"
)

// odd numbers: what a program may hand over by mistake. None is a local or a side.
var odd = []int{
	math.MinInt, math.MinInt + 1, -1 << 40, -1 << 32, -256, -17, -2, -1,
	math.MaxInt, math.MaxInt - 1, 1 << 62, api.Inf + 1, api.Inf, 1<<32 + 1, 1 << 32, 1 << 31, 1 << 8,
}

// row of numbers, always the same one.
type row struct{ last uint64 }

func (r *row) below(n int) int {
	r.last = r.last*6364136223846793005 + 1442695040888963407
	return int(r.last >> 33 % uint64(n))
}

// of is one of these.
func (r *row) of(l ...int) int { return l[r.below(len(l))] }

// cost is one of a kind: open ground, ground of few costs with walls, ground of all costs, a maze.
func (r *row) cost(kind int) byte {
	switch kind {
	case 0:
		return 1
	case 1:
		return byte(r.of(1, 1, 2, 3, api.Wall))
	case 2:
		return byte(1 + r.below(255))
	}
	return byte(r.of(1, 9, 253, 254, api.Wall, api.Wall))
}

// tile of that size, with costs of that kind.
func (r *row) tile(w, h, kind int) api.Tile {
	x := api.Tile{W: w, H: h, C: make([]byte, w*h)}
	for i := range x.C {
		x.C[i] = r.cost(kind)
	}
	return x
}

// seeds are up to n that the tile may have, in no order, with Keys that are often alike, or a way's cost apart.
func (r *row) seeds(x api.Tile, n int) []api.Seed {
	base := r.of(0, 0, 1, 255, 1<<20, api.MaxKey-600)
	var l []api.Seed
	for range n {
		s := api.Seed{Cell: r.below(len(x.C)), Side: r.below(5), Key: base + r.of(0, 0, 1, 2, 3, r.below(9), r.below(600))}
		if x.C[s.Cell] != api.Wall && leadsOut(x, s.Cell, s.Side) {
			l = append(l, s)
		}
	}
	return l
}

// leadsOut tells whether a seed may have that cell and side.
func leadsOut(x api.Tile, cell, side int) bool {
	return side == api.Here || beside(x, cell, side) < 0
}

// beside is the local by a side, reckoned by column and row; -1 if the tile ends there.
func beside(x api.Tile, local, side int) int {
	column := local%x.W + [4]int{0, 1, 0, -1}[side]
	line := local/x.W + [4]int{-1, 0, 1, 0}[side]
	if column < 0 || column >= x.W || line < 0 || line >= x.H {
		return -1
	}
	return line*x.W + column
}

// here is a seed that any tile may have at an open local.
func here(local, key int) api.Seed { return api.Seed{Cell: local, Side: api.Here, Key: key} }

// ways goes along each way from a local that comes to no local twice, and calls see with its sides, where it ends,
// and its cost.
func ways(x api.Tile, local, cost int, been, sides []int, see func(sides []int, end, cost int)) {
	see(sides, local, cost)
	been = append(slices.Clone(been), local)
	for side := api.North; side <= api.West; side++ {
		n := beside(x, local, side)
		if n >= 0 && x.C[n] != api.Wall && !slices.Contains(been, n) {
			ways(x, n, cost+int(x.C[n]), been, append(slices.Clone(sides), side), see)
		}
	}
}

// byWays is a Field, made by going along all ways: the least cost of one, and with what the least ones begin.
func byWays(x api.Tile, l []api.Seed) api.Field {
	f := nowhere(len(x.C))
	for local, cost := range x.C {
		if cost == api.Wall {
			continue
		}
		begins := map[int]int{} // of each direction the least cost of a way that begins with it
		ways(x, local, 0, nil, nil, func(sides []int, end, cost int) {
			for _, s := range l {
				if s.Cell != end {
					continue
				}
				// A way that ends where it begins goes on by the seed's own side.
				dir := append(slices.Clone(sides), s.Side)[0]
				if d, ok := begins[dir]; !ok || s.Key+cost < d {
					begins[dir] = s.Key + cost
				}
			}
		})
		for _, dir := range []int{api.Here, api.North, api.East, api.South, api.West} {
			if d, ok := begins[dir]; ok && d < f.Dist[local] {
				f.Dist[local], f.Dir[local] = d, dir
			}
		}
	}
	return f
}

// nowhere is the field of n locals from which no way leads anywhere.
func nowhere(n int) api.Field {
	return api.Field{Dist: slices.Repeat([]int{api.Inf}, n), Dir: slices.Repeat([]int{api.None}, n)}
}

// byRounds are distances, by going over all locals till nothing lessens.
func byRounds(x api.Tile, l []api.Seed) []int {
	far := slices.Repeat([]int{api.Inf}, len(x.C))
	for _, s := range l {
		far[s.Cell] = min(far[s.Cell], s.Key)
	}
	for changed := true; changed; {
		changed = false
		for local, cost := range x.C {
			for side := api.North; side <= api.West && cost != api.Wall; side++ {
				n := beside(x, local, side)
				if n >= 0 && x.C[n] != api.Wall && far[n]+int(x.C[n]) < far[local] {
					far[local], changed = far[n]+int(x.C[n]), true
				}
			}
		}
	}
	return far
}

// byWords is a Field, made of distances by rounds and of directions as 10.1 words them.
func byWords(x api.Tile, l []api.Seed) api.Field {
	f := nowhere(len(x.C))
	f.Dist = byRounds(x, l)
	for local, distance := range f.Dist {
		if distance == api.Inf {
			continue
		}
		// The last one asked is the first one told.
		for _, dir := range []int{api.West, api.South, api.East, api.North, api.Here} {
			if isBy(x, l, f.Dist, local, dir) {
				f.Dir[local] = dir
			}
		}
	}
	return f
}

// isBy tells whether a local's distance comes about by a direction.
func isBy(x api.Tile, l []api.Seed, far []int, local, dir int) bool {
	if !leadsOut(x, local, dir) {
		n := beside(x, local, dir)
		return x.C[n] != api.Wall && far[n]+int(x.C[n]) == far[local]
	}
	return slices.Contains(l, api.Seed{Cell: local, Side: dir, Key: far[local]})
}

// field asks for what may be.
func field(t *testing.T, x api.Tile, l []api.Seed) api.Field {
	t.Helper()
	f, code := steer.Field(x, l)
	if code != api.OK || len(f.Dist) != len(x.C) || len(f.Dir) != len(x.C) {
		t.Fatalf("Field of %v, %v: %v, %d", x, l, f, code)
	}
	return f
}

// tells asks for a field, and holds it against the one that must be.
func tells(t *testing.T, x api.Tile, l []api.Seed, want api.Field) {
	t.Helper()
	f := field(t, x, l)
	if !slices.Equal(f.Dist, want.Dist) {
		t.Fatalf("Dist of %v, %v: %v; not %v", x, l, f.Dist, want.Dist)
	}
	if !slices.Equal(f.Dir, want.Dir) {
		t.Fatalf("Dir of %v, %v: %v; not %v", x, l, f.Dir, want.Dir)
	}
}

// points asks for a field, and holds its directions against those that must be.
func points(t *testing.T, x api.Tile, l []api.Seed, want ...int) {
	t.Helper()
	if f := field(t, x, l); !slices.Equal(f.Dir, want) {
		t.Errorf("Dir of %v, %v: %v; not %v", x, l, f.Dir, want)
	}
}

// 10.1

func TestExample(t *testing.T) {
	x := api.Tile{W: 3, H: 1, C: []byte{5, 2, 9}}
	tells(t, x, []api.Seed{here(2, 0)}, api.Field{Dist: []int{11, 9, 0}, Dir: []int{api.East, api.East, api.Here}})
}

func TestExampleOfTheWhole(t *testing.T) {
	x := api.Tile{W: 16, H: 1, C: bytes.Repeat([]byte{1}, 16)}
	f := field(t, x, []api.Seed{{Cell: 15, Side: api.East, Key: 17}})
	if f.Dist[15] != 17 || f.Dir[15] != api.East || f.Dist[0] != 32 || f.Dir[0] != api.East {
		t.Error(f)
	}
}

func TestFieldIsTheFirstOfAllLeastWays(t *testing.T) {
	numbers := row{1}
	for _, size := range [][2]int{{1, 1}, {1, 2}, {2, 1}, {2, 2}, {1, 5}, {5, 1}, {3, 2}, {2, 3}, {4, 2}, {3, 3}, {3, 4}, {4, 3}} {
		for i := range 40 {
			x := numbers.tile(size[0], size[1], i%4)
			l := numbers.seeds(x, 1+i/4)
			tells(t, x, l, byWays(x, l))
		}
	}
}

func TestFieldOfEachPatternOfTwoByTwo(t *testing.T) {
	costs := []byte{1, 3, 254, api.Wall}
	numbers := row{2}
	for pattern := range 256 {
		x := api.Tile{W: 2, H: 2}
		for i := range 4 {
			x.C = append(x.C, costs[pattern>>(2*i)&3])
		}
		for local, cost := range x.C {
			if cost != api.Wall {
				l := []api.Seed{here(local, 6)}
				tells(t, x, l, byWays(x, l))
			}
		}
		for n := range 12 {
			l := numbers.seeds(x, n)
			tells(t, x, l, byWays(x, l))
		}
	}
}

func TestFieldOfEachSize(t *testing.T) {
	numbers := row{3}
	for w := 1; w <= api.Span; w++ {
		for h := 1; h <= api.Span; h++ {
			for kind := range 4 {
				x := numbers.tile(w, h, kind)
				l := numbers.seeds(x, numbers.of(1, 2, 7, 60))
				tells(t, x, l, byWords(x, l))
			}
		}
	}
}

func TestFieldFromEachCellAndSide(t *testing.T) {
	numbers := row{4}
	for kind := range 4 {
		x := numbers.tile(13, 11, kind)
		for local, cost := range x.C {
			for side := api.North; side <= api.Here; side++ {
				if cost != api.Wall && leadsOut(x, local, side) {
					l := []api.Seed{{Cell: local, Side: side, Key: 7}}
					tells(t, x, l, byWords(x, l))
				}
			}
		}
	}
}

func TestFieldOfGroundOfOneCost(t *testing.T) {
	for _, cost := range []byte{1, 2, 253, 254} {
		x := api.Tile{W: 16, H: 16, C: bytes.Repeat([]byte{cost}, 256)}
		f := field(t, x, []api.Seed{here(16*5+9, 3)})
		for local := range x.C {
			across, down := local%16-9, local/16-5
			// Of two sides that lead nearer North comes first, then East, then South, then West.
			want := api.West
			switch {
			case across == 0 && down == 0:
				want = api.Here
			case down > 0:
				want = api.North
			case across < 0:
				want = api.East
			case down < 0:
				want = api.South
			}
			steps := max(across, -across) + max(down, -down)
			if f.Dist[local] != 3+steps*int(cost) || f.Dir[local] != want {
				t.Fatalf("cost %d, local %d: %d, %d", cost, local, f.Dist[local], f.Dir[local])
			}
		}
	}
}

// levels are the Keys of a local's seeds by each side and Here, told by digits of base 3: 0 for none.
func levels(local, pattern int) []api.Seed {
	var l []api.Seed
	for side := api.North; side <= api.Here; side++ {
		if level := pattern % 3; level > 0 {
			l = append(l, api.Seed{Cell: local, Side: side, Key: 9 + level})
		}
		pattern /= 3
	}
	return l
}

func TestOneCellWithEachSetOfSeeds(t *testing.T) {
	x := api.Tile{W: 1, H: 1, C: []byte{200}}
	for pattern := range 243 {
		l := levels(0, pattern)
		want := nowhere(1)
		for _, side := range []int{api.Here, api.North, api.East, api.South, api.West} {
			if d := seeds.Best(l, 0, side); d < want.Dist[0] {
				want.Dist[0], want.Dir[0] = d, side
			}
		}
		tells(t, x, l, want)
		slices.Reverse(l)
		tells(t, x, l, want)
		tells(t, x, append(l, l...), want)
	}
}

func TestWaysOutBesideWaysWithin(t *testing.T) {
	// All lead from the middle, as dear: the four sides' locals have seeds of their own.
	x := api.Tile{W: 3, H: 3, C: []byte{255, 6, 255, 3, 9, 4, 255, 5, 255}}
	sides := []api.Seed{{Cell: 1, Side: api.North, Key: 14}, {Cell: 5, Side: api.East, Key: 16}, {Cell: 7, Side: api.South, Key: 15}, {Cell: 3, Side: api.West, Key: 17}}
	for first := range sides {
		f := field(t, x, sides[first:])
		if f.Dist[4] != 20 || f.Dir[4] != first {
			t.Error("from side", first, "on:", f)
		}
		f = field(t, x, append([]api.Seed{here(4, 20)}, sides[first:]...))
		if f.Dist[4] != 20 || f.Dir[4] != api.Here {
			t.Error("Here, and from side", first, "on:", f)
		}
		f = field(t, x, append([]api.Seed{here(4, 21)}, sides[first:]...))
		if f.Dist[4] != 20 || f.Dir[4] != first {
			t.Error("Here farther, and from side", first, "on:", f)
		}
	}
	// One step within, and one out, as dear.
	x = api.Tile{W: 2, H: 1, C: []byte{3, 4}}
	points(t, x, []api.Seed{{Cell: 0, Side: api.North, Key: 10}, {Cell: 1, Side: api.South, Key: 6}}, api.North, api.South)
	points(t, x, []api.Seed{{Cell: 0, Side: api.South, Key: 10}, {Cell: 1, Side: api.South, Key: 6}}, api.East, api.South)
	points(t, x, []api.Seed{{Cell: 0, Side: api.South, Key: 9}, {Cell: 1, Side: api.South, Key: 6}}, api.South, api.South)
	points(t, x, []api.Seed{{Cell: 1, Side: api.East, Key: 10}, {Cell: 0, Side: api.South, Key: 7}}, api.South, api.East)
	points(t, x, []api.Seed{{Cell: 1, Side: api.South, Key: 10}, {Cell: 0, Side: api.South, Key: 7}}, api.South, api.South)
}

func TestASeedThatIsNotNearestPointsNowhere(t *testing.T) {
	x := api.Tile{W: 3, H: 1, C: []byte{1, 1, 1}}
	points(t, x, []api.Seed{here(0, 3), here(2, 0)}, api.East, api.East, api.Here)
	points(t, x, []api.Seed{here(0, 2), here(2, 0)}, api.Here, api.East, api.Here)
	points(t, x, []api.Seed{here(0, 1), here(2, 0)}, api.Here, api.East, api.Here)
	points(t, x, []api.Seed{here(1, 0), {Cell: 1, Side: api.North, Key: 1}, {Cell: 0, Side: api.North, Key: 2}}, api.East, api.Here, api.West)
	points(t, x, []api.Seed{{Cell: 1, Side: api.North, Key: 4}, {Cell: 1, Side: api.South, Key: 3}}, api.East, api.South, api.West)
	points(t, x, []api.Seed{{Cell: 1, Side: api.South, Key: 3}, {Cell: 1, Side: api.South, Key: 4}, {Cell: 1, Side: api.North, Key: 4}}, api.East, api.South, api.West)
}

func TestNoSeedOfAnotherCellOrSideIsMeant(t *testing.T) {
	// Two locals that no way joins, with one Key.
	x := api.Tile{W: 3, H: 1, C: []byte{1, api.Wall, 1}}
	points(t, x, []api.Seed{{Cell: 0, Side: api.South, Key: 5}, {Cell: 2, Side: api.North, Key: 5}}, api.South, api.None, api.North)
	points(t, x, []api.Seed{here(0, 5), {Cell: 2, Side: api.North, Key: 5}}, api.Here, api.None, api.North)
	points(t, x, []api.Seed{{Cell: 0, Side: api.West, Key: 5}, here(2, 5)}, api.West, api.None, api.Here)
}

func TestWhatIsEnteredIsPaidNotWhatIsLeft(t *testing.T) {
	// From the middle it is Key and 1 to the West, 9 to the East; if who leaves paid, East would be nearer always.
	x := api.Tile{W: 3, H: 1, C: []byte{1, 50, 9}}
	points(t, x, []api.Seed{here(0, 7), here(2, 0)}, api.Here, api.West, api.Here)
	points(t, x, []api.Seed{here(0, 8), here(2, 0)}, api.Here, api.East, api.Here)
	points(t, x, []api.Seed{here(0, 9), here(2, 0)}, api.Here, api.East, api.Here)
}

func TestWallsHaveNoDirection(t *testing.T) {
	x := api.Tile{W: 2, H: 2, C: []byte{255, 1, 1, 1}}
	tells(t, x, []api.Seed{here(1, 0)}, api.Field{Dist: []int{api.Inf, 0, 2, 1}, Dir: []int{api.None, api.Here, api.East, api.North}})
	x = api.Tile{W: 3, H: 3, C: []byte{1, 255, 1, 1, 255, 1, 1, 1, 1}}
	points(t, x, []api.Seed{here(0, 0)}, api.Here, api.None, api.South, api.North, api.None, api.South, api.North, api.West, api.West)
	// No way goes by a corner, or from a row's end to the next one's beginning.
	x = api.Tile{W: 3, H: 2, C: []byte{1, 1, 255, 255, 255, 1}}
	points(t, x, []api.Seed{here(5, 0)}, api.None, api.None, api.None, api.None, api.None, api.Here)
	x = api.Tile{W: 2, H: 2, C: []byte{255, 1, 1, 255}}
	points(t, x, []api.Seed{here(1, 0)}, api.None, api.Here, api.None, api.None)
	x = api.Tile{W: 16, H: 16, C: bytes.Repeat([]byte{api.Wall}, 256)}
	tells(t, x, nil, nowhere(256))
}

func TestWithoutSeedsNoWayLeadsThere(t *testing.T) {
	numbers := row{5}
	for _, size := range [][2]int{{1, 1}, {1, 16}, {16, 1}, {7, 3}, {16, 16}} {
		x := numbers.tile(size[0], size[1], 2)
		for _, l := range [][]api.Seed{nil, {}} {
			tells(t, x, l, nowhere(len(x.C)))
		}
	}
}

func TestKeysAtTheEnds(t *testing.T) {
	x := api.Tile{W: 5, H: 1, C: []byte{9, 9, api.Wall, 254, 254}}
	l := []api.Seed{{Cell: 0, Side: api.South, Key: api.MaxKey}, {Cell: 1, Side: api.North, Key: api.MaxKey}, {Cell: 4, Side: api.East, Key: api.MaxKey}, {Cell: 3, Side: api.South, Key: 0}}
	tells(t, x, l, api.Field{
		Dist: []int{api.MaxKey, api.MaxKey, api.Inf, 0, 254},
		Dir:  []int{api.South, api.North, api.None, api.South, api.West},
	})
	x = api.Tile{W: 16, H: 16, C: bytes.Repeat([]byte{254}, 256)}
	for _, key := range []int{0, api.MaxKey} {
		l = []api.Seed{{Cell: 255, Side: api.South, Key: key}}
		tells(t, x, l, byWords(x, l))
	}
}

func TestDistIsSpread(t *testing.T) {
	numbers := row{6}
	for i := range 200 {
		x := numbers.tile(1+numbers.below(16), 1+numbers.below(16), i%4)
		l := numbers.seeds(x, 30)
		far, code := sweep.Spread(x, l)
		if f := field(t, x, l); code != api.OK || !slices.Equal(f.Dist, far) {
			t.Fatalf("%v, %v: %v; not %v", x, l, f.Dist, far)
		}
	}
}

func TestNoOrderOfSeedsMatters(t *testing.T) {
	numbers := row{7}
	for i := range 100 {
		x := numbers.tile(1+numbers.below(16), 1+numbers.below(16), i%4)
		l := numbers.seeds(x, 40)
		want := field(t, x, l)
		twice := append(slices.Clone(l), l...)
		slices.Reverse(twice)
		for _, m := range [][]api.Seed{seeds.Sort(l), twice, twice[:len(l)]} {
			tells(t, x, m, want)
		}
	}
}

// refused asks for a field of what may not be.
func refused(t *testing.T, x api.Tile, l []api.Seed) {
	t.Helper()
	if f, code := steer.Field(x, l); code != api.ErrArg || len(f.Dist) != 0 || len(f.Dir) != 0 {
		t.Errorf("Field of %d by %d with %d costs, %v: %v, %d", x.W, x.H, len(x.C), l, f, code)
	}
}

// badTiles are some that may not be.
func badTiles() []api.Tile {
	ones := bytes.Repeat([]byte{1}, 300)
	return []api.Tile{
		{}, {W: 1, H: 1}, {W: 1, H: 1, C: []byte{0}}, {W: 2, H: 2, C: ones[:3]}, {W: 2, H: 2, C: ones[:5]},
		{W: -1, H: -1, C: ones[:1]}, {W: 0, H: 1}, {W: 1, H: 0, C: ones[:1]}, {W: 17, H: 1, C: ones[:17]},
		{W: 1, H: 17, C: ones[:17]}, {W: 17, H: 17, C: ones[:289]}, {W: 8, H: 32, C: ones[:256]},
		{W: 1 << 32, H: 1 << 32}, {W: math.MinInt + 1, H: math.MinInt + 1, C: ones[:1]},
		{W: math.MaxInt, H: 1, C: ones[:1]}, {W: 3, H: 1, C: []byte{1, 1, 0}}, {W: 3, H: 1, C: []byte{0, 1, 1}},
	}
}

func TestTilesThatMayNotBe(t *testing.T) {
	for _, x := range badTiles() {
		for _, l := range [][]api.Seed{nil, {}, {here(0, 0)}, {{Side: api.North}}, {here(-1, 0)}} {
			refused(t, x, l)
		}
	}
}

func TestSeedsThatMayNotBe(t *testing.T) {
	x := api.Tile{W: 3, H: 2, C: []byte{1, 2, 3, 4, api.Wall, 6}}
	bad := []api.Seed{
		here(4, 0), {Cell: 4, Side: api.South}, // a wall
		{Cell: 1, Side: api.South}, {Cell: 3, Side: api.East}, // a wall within the tile is no way out
		{Cell: 0, Side: api.East}, {Cell: 2, Side: api.West}, {Cell: 5, Side: api.North},
		here(6, 0), {Cell: 6, Side: api.East}, {Cell: 0, Side: api.None}, {Cell: 0, Side: 6}, here(0, api.MaxKey+1),
	}
	for _, n := range odd {
		bad = append(bad, here(n, 0), api.Seed{Side: n})
		if n < 0 || n > api.MaxKey {
			bad = append(bad, here(0, n))
		}
	}
	good := []api.Seed{here(0, 0), {Cell: 0, Side: api.West, Key: 3}, {Cell: 5, Side: api.South, Key: api.MaxKey}, here(2, 5)}
	tells(t, x, good, byWays(x, good))
	for _, s := range bad {
		refused(t, x, []api.Seed{s})
		for place := range len(good) + 1 {
			refused(t, x, slices.Insert(slices.Clone(good), place, s))
		}
	}
}

// 10.2

// byStep is Walk, reckoned by column and row.
func byStep(x api.Tile, f api.Field, local int) ([]int, int) {
	var walked []int
	for {
		walked = append(walked, local)
		dir := f.Dir[local]
		if dir < api.North || dir > api.West || beside(x, local, dir) < 0 || len(walked) == len(x.C) {
			return walked, dir
		}
		local = beside(x, local, dir)
	}
}

// walks asks for a way, and holds it against the one that must be.
func walks(t *testing.T, x api.Tile, f api.Field, local int) {
	t.Helper()
	want, last := byStep(x, f, local)
	if got, dir := steer.Walk(x, f, local); !slices.Equal(got, want) || dir != last {
		t.Fatalf("Walk of %d by %d, %v, from %d: %v, %d; not %v, %d", x.W, x.H, f.Dir, local, got, dir, want, last)
	}
}

func TestExampleOfAWalk(t *testing.T) {
	x := api.Tile{W: 3, H: 1, C: []byte{5, 2, 9}}
	f := field(t, x, []api.Seed{here(2, 0)})
	if l, dir := steer.Walk(x, f, 0); !slices.Equal(l, []int{0, 1, 2}) || dir != api.Here {
		t.Error(l, dir)
	}
	if l, dir := steer.Walk(x, f, 2); !slices.Equal(l, []int{2}) || dir != api.Here {
		t.Error(l, dir)
	}
}

func TestWalkAlongFields(t *testing.T) {
	numbers := row{8}
	for i := range 200 {
		x := numbers.tile(1+numbers.below(16), 1+numbers.below(16), i%4)
		f := field(t, x, numbers.seeds(x, 8))
		for local := range x.C {
			walks(t, x, f, local)
		}
	}
}

func TestWalkAlongAnyDirections(t *testing.T) {
	numbers := row{9}
	for i := range 400 {
		x := numbers.tile(1+numbers.below(16), 1+numbers.below(16), i%4)
		f := api.Field{Dist: make([]int, len(x.C)), Dir: make([]int, len(x.C))}
		for local := range f.Dir {
			// Most of them sides: else no walk would be long.
			f.Dist[local], f.Dir[local] = numbers.of(odd...), numbers.below(4)
			if numbers.below(12) == 0 {
				f.Dir[local] = numbers.of(append(odd, api.Here, api.None, 6)...)
			}
		}
		for local := range x.C {
			walks(t, x, f, local)
		}
	}
}

func TestWalkInACircle(t *testing.T) {
	x := api.Tile{W: 3, H: 2, C: bytes.Repeat([]byte{1}, 6)}
	f := api.Field{Dist: make([]int, 6), Dir: []int{api.East, api.South, api.West, api.North, api.West, api.North}}
	for local, want := range [][]int{{0, 1, 4, 3, 0, 1}, {1, 4, 3, 0, 1, 4}, {2, 1, 4, 3, 0, 1}, {3, 0, 1, 4, 3, 0}, {4, 3, 0, 1, 4, 3}, {5, 2, 1, 4, 3, 0}} {
		if l, dir := steer.Walk(x, f, local); !slices.Equal(l, want) || dir != f.Dir[want[5]] {
			t.Error(local, l, dir)
		}
	}
}

func TestWalkAlongAllLocals(t *testing.T) {
	x := api.Tile{W: 16, H: 16, C: bytes.Repeat([]byte{1}, 256)}
	f := api.Field{Dist: make([]int, 256), Dir: make([]int, 256)}
	for local := range f.Dir {
		column, line := local%16, local/16
		f.Dir[local] = [2]int{api.East, api.West}[line%2]
		if column == [2]int{15, 0}[line%2] {
			f.Dir[local] = api.South
		}
	}
	// The last local leads out, so that all of them are come to, and the last one's direction is told.
	l, dir := steer.Walk(x, f, 0)
	if len(l) != 256 || l[255] != 240 || dir != api.South {
		t.Error(len(l), l, dir)
	}
	for local := range x.C {
		walks(t, x, f, local)
	}
}

func TestWalkEndsWhereTheTileEnds(t *testing.T) {
	x := api.Tile{W: 3, H: 3, C: bytes.Repeat([]byte{1}, 9)}
	for side, want := range [][]int{{4, 1}, {4, 5}, {4, 7}, {4, 3}} {
		f := api.Field{Dist: make([]int, 9), Dir: slices.Repeat([]int{side}, 9)}
		if l, dir := steer.Walk(x, f, 4); !slices.Equal(l, want) || dir != side {
			t.Error(side, l, dir)
		}
	}
}

func TestWalkEndsAtWhatIsNoSide(t *testing.T) {
	x := api.Tile{W: 3, H: 3, C: bytes.Repeat([]byte{1}, 9)}
	for _, dir := range append([]int{api.Here, api.None, 6, 7}, odd...) {
		f := api.Field{Dist: make([]int, 9), Dir: []int{4: api.West, 3: dir, 8: 0}}
		if l, last := steer.Walk(x, f, 4); !slices.Equal(l, []int{4, 3}) || last != dir {
			t.Error(dir, l, last)
		}
		f.Dir[4] = dir
		if l, last := steer.Walk(x, f, 4); !slices.Equal(l, []int{4}) || last != dir {
			t.Error(dir, l, last)
		}
	}
}

func TestWalkAsksNeitherCostsNorDistances(t *testing.T) {
	x := api.Tile{W: 3, H: 1, C: []byte{api.Wall, api.Wall, 1}}
	f := api.Field{Dist: []int{-1, api.Inf, math.MaxInt}, Dir: []int{api.East, api.East, api.None}}
	if l, dir := steer.Walk(x, f, 0); !slices.Equal(l, []int{0, 1, 2}) || dir != api.None {
		t.Error(l, dir)
	}
}

// stays asks for a way that may not be.
func stays(t *testing.T, x api.Tile, f api.Field, local int) {
	t.Helper()
	if l, dir := steer.Walk(x, f, local); len(l) != 0 || dir != api.None {
		t.Errorf("Walk of %d by %d with %d costs, %d and %d numbers, from %d: %v, %d", x.W, x.H, len(x.C), len(f.Dist), len(f.Dir), local, l, dir)
	}
}

func TestWalksThatMayNotBe(t *testing.T) {
	// The direction of all is not None, which is what is told of no walk.
	numbers := make([]int, 400)
	for _, x := range badTiles() {
		for _, local := range []int{0, 1, -1, len(x.C) - 1, len(x.C)} {
			stays(t, x, api.Field{Dist: numbers[:len(x.C)], Dir: numbers[:len(x.C)]}, local)
			stays(t, x, api.Field{Dist: numbers, Dir: numbers}, local)
			stays(t, x, api.Field{}, local)
		}
	}
	x := api.Tile{W: 4, H: 3, C: bytes.Repeat([]byte{2}, 12)}
	for _, n := range []int{0, 1, 4, 11, 13, 256} {
		for local := range 12 {
			stays(t, x, api.Field{Dist: numbers[:n], Dir: numbers[:12]}, local)
			stays(t, x, api.Field{Dist: numbers[:12], Dir: numbers[:n]}, local)
			stays(t, x, api.Field{Dist: numbers[:n], Dir: numbers[:n]}, local)
		}
	}
	for _, local := range append([]int{12, 13, 16, 255}, odd...) {
		stays(t, x, api.Field{Dist: numbers[:12], Dir: numbers[:12]}, local)
	}
}

// 10.3

func TestEachDirectionLeadsNearer(t *testing.T) {
	numbers := row{10}
	for i := range 300 {
		x := numbers.tile(1+numbers.below(16), 1+numbers.below(16), i%4)
		l := numbers.seeds(x, numbers.below(30))
		f := field(t, x, l)
		for local, dir := range f.Dir {
			if dir == api.None || leadsOut(x, local, dir) {
				continue
			}
			n := beside(x, local, dir)
			if x.C[n] == api.Wall || f.Dist[local]-f.Dist[n] != int(x.C[n]) {
				t.Fatalf("%v, %v: from %d to %d, at %d", x, l, f.Dist[local], f.Dist[n], local)
			}
		}
	}
}

func TestDirectionsComeToASeedAtWhatDistSays(t *testing.T) {
	numbers := row{11}
	for i := range 300 {
		x := numbers.tile(1+numbers.below(16), 1+numbers.below(16), i%4)
		l := numbers.seeds(x, numbers.below(30))
		f := field(t, x, l)
		for local, distance := range f.Dist {
			walked, dir := steer.Walk(x, f, local)
			if distance == api.Inf {
				if len(walked) != 1 || dir != api.None {
					t.Fatalf("%v, %v: from %d by %v, %d", x, l, local, walked, dir)
				}
				continue
			}
			paid := 0
			for _, n := range walked[1:] {
				paid += int(x.C[n])
			}
			last := walked[len(walked)-1]
			if !slices.Contains(l, api.Seed{Cell: last, Side: dir, Key: distance - paid}) {
				t.Fatalf("%v, %v: from %d by %v, %d: paid %d of %d", x, l, local, walked, dir, paid, distance)
			}
		}
	}
}

// T2

// truth is of each cell of a map how far the goal is, and in which direction, reckoned without sectors.
func truth(m api.Map, goal int) api.Field {
	if m.C[goal] == api.Wall {
		return nowhere(len(m.C))
	}
	// A map as one great tile: the reckoning by rounds does not ask how long its sides are.
	return byWords(api.Tile{W: m.W, H: m.H, C: m.C}, []api.Seed{here(goal, 0)})
}

// outside are the seeds of a sector, of a map of which all distances are known.
func outside(m api.Map, far []int, goal, sector int) []api.Seed {
	var l []api.Seed
	tw, th := where.Size(m.W, m.H, sector)
	for local := range tw * th {
		cell := where.Global(m.W, m.H, sector, local)
		if m.C[cell] == api.Wall {
			continue
		}
		if cell == goal {
			l = append(l, here(local, 0))
		}
		for side := api.North; side <= api.West; side++ {
			n := where.Step(m.W, m.H, cell, side)
			if n >= 0 && where.Sector(m.W, m.H, n) != sector && far[n] < api.Inf {
				l = append(l, api.Seed{Cell: local, Side: side, Key: int(m.C[n]) + far[n]})
			}
		}
	}
	return l
}

func TestSectorsTellTheDirectionsOfTheMap(t *testing.T) {
	numbers := row{12}
	for _, size := range [][2]int{{1, 1}, {16, 16}, {17, 1}, {1, 17}, {20, 18}, {33, 17}, {40, 3}, {3, 40}, {48, 48}} {
		for kind := range 4 {
			whole := numbers.tile(size[0], size[1], kind)
			m := api.Map{W: whole.W, H: whole.H, C: whole.C}
			for _, goal := range []int{0, len(m.C) / 2, len(m.C) - 1, numbers.below(len(m.C))} {
				sectorsTell(t, m, goal, truth(m, goal))
			}
		}
	}
}

// sectorsTell asks for the fields of all sectors, and holds them against what must be told of the map.
func sectorsTell(t *testing.T, m api.Map, goal int, want api.Field) {
	t.Helper()
	across, down := where.Sectors(m.W, m.H)
	for sector := range across * down {
		x, ok := atlas.Tile(m, sector)
		if !ok {
			t.Fatal("no sector", sector)
		}
		f := field(t, x, outside(m, want.Dist, goal, sector))
		for local := range x.C {
			cell := where.Global(m.W, m.H, sector, local)
			if f.Dist[local] != want.Dist[cell] || f.Dir[local] != want.Dir[cell] {
				t.Fatalf("%d by %d, goal %d: %d, %d at %d; not %d, %d", m.W, m.H, goal, f.Dist[local], f.Dir[local], cell, want.Dist[cell], want.Dir[cell])
			}
		}
	}
}

// Rules 2, 3, 8

func TestWhatIsHandedInStays(t *testing.T) {
	numbers := row{13}
	for i := range 100 {
		x := numbers.tile(1+numbers.below(16), 1+numbers.below(16), i%4)
		l := numbers.seeds(x, 20)
		f := field(t, x, l)
		was := fmt.Sprint(x, l, f)
		steer.Field(x, l)
		for local := range x.C {
			steer.Walk(x, f, local)
		}
		if now := fmt.Sprint(x, l, f); now != was {
			t.Fatalf("%s: now %s", was, now)
		}
	}
}

func TestAnswersAreTheCallersOwn(t *testing.T) {
	x := api.Tile{W: 3, H: 2, C: []byte{1, 2, 3, 4, 5, 6}}
	l := []api.Seed{here(2, 9), here(0, 4)}
	f, again := field(t, x, l), field(t, x, l)
	first, _ := steer.Walk(x, f, 5)
	second, _ := steer.Walk(x, f, 5)
	was := fmt.Sprint(f, first)
	for i := range again.Dist {
		again.Dist[i] = -7
	}
	for i := range second {
		second[i] = -8
	}
	x.C[1], l[0].Key = 200, 0
	if now := fmt.Sprint(f, first); now != was {
		t.Error("memory is shared:", was, now)
	}
	for _, dir := range again.Dir {
		if dir == -7 {
			t.Error("both lists of a field are one:", again)
		}
	}
	tells(t, x, l, byWords(x, l))
}

func TestNothingBehindTheListsIsRead(t *testing.T) {
	costs := []byte{1, 2, 3, 4, 1, 1, 0}
	l := []api.Seed{here(3, 9), here(0, 0), here(-1, -1)}
	x := api.Tile{W: 2, H: 2, C: costs[:4]}
	tells(t, x, l[:1], api.Field{Dist: []int{15, 13, 13, 9}, Dir: []int{api.East, api.South, api.East, api.Here}})
	tells(t, x, l[:0], nowhere(4))
	numbers := []int{api.East, api.South, api.North, api.South, api.North, api.North}
	f := api.Field{Dist: numbers[:4], Dir: numbers[:4]}
	if walked, dir := steer.Walk(x, f, 0); !slices.Equal(walked, []int{0, 1, 3}) || dir != api.South {
		t.Error(walked, dir)
	}
	stays(t, x, f, 4)
	stays(t, x, api.Field{Dist: numbers[:4], Dir: numbers[:3]}, 0)
	if !bytes.Equal(costs, []byte{1, 2, 3, 4, 1, 1, 0}) || !slices.Equal(l, []api.Seed{here(3, 9), here(0, 0), here(-1, -1)}) {
		t.Error("changed:", costs, l)
	}
}
