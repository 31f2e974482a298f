package sweep_test

import (
	"bytes"
	"fmt"
	"math"
	"slices"
	"testing"

	"herdsman/api"
	"herdsman/atlas"
	"herdsman/seeds"
	"herdsman/sweep"
	"herdsman/where"
)

// row of numbers, always the same one.
type row struct{ last uint64 }

func (r *row) below(n int) int {
	r.last = r.last*6364136223846793005 + 1442695040888963407
	return int(r.last >> 33 % uint64(n))
}

// of is one of these.
func (r *row) of(l ...int) int { return l[r.below(len(l))] }

// cost is one of a kind: open ground, ground of few costs with walls, ground of all costs, a maze.
func (r *row) cost(kind int) byte {
	switch kind {
	case 0:
		return 1
	case 1:
		return byte(r.of(1, 1, 2, 3, api.Wall))
	case 2:
		return byte(1 + r.below(255))
	}
	return byte(r.of(1, 9, 253, 254, api.Wall, api.Wall))
}

// tile of that size, with costs of that kind.
func (r *row) tile(w, h, kind int) api.Tile {
	x := api.Tile{W: w, H: h, C: make([]byte, w*h)}
	for i := range x.C {
		x.C[i] = r.cost(kind)
	}
	return x
}

// key is one that lies near the others, far from them, or at an end.
func (r *row) key() int {
	return r.of(0, 1, r.below(20), r.below(600), 254, 255, 256, 257, 511, 512, 5000, 1<<20, api.MaxKey-1, api.MaxKey)
}

// seeds are up to n that the tile may have, in no order.
func (r *row) seeds(x api.Tile, n int) []api.Seed {
	var l []api.Seed
	for range n {
		s := api.Seed{Cell: r.below(len(x.C)), Side: r.below(5), Key: r.key()}
		if x.C[s.Cell] != api.Wall && leadsOut(x, s.Cell, s.Side) {
			l = append(l, s)
		}
	}
	return l
}

// leadsOut tells whether a seed may have that cell and side.
func leadsOut(x api.Tile, cell, side int) bool {
	return [5]bool{cell < x.W, cell%x.W == x.W-1, cell >= len(x.C)-x.W, cell%x.W == 0, true}[side]
}

// here is a seed that any tile may have at an open local.
func here(local, key int) api.Seed { return api.Seed{Cell: local, Side: api.Here, Key: key} }

// besides are the open locals beside one, reckoned by column and row.
func besides(x api.Tile, local int) []int {
	var out []int
	for n, cost := range x.C {
		across, down := n%x.W-local%x.W, n/x.W-local/x.W
		if cost != api.Wall && across*across+down*down == 1 {
			out = append(out, n)
		}
	}
	return out
}

// ways goes along each way from a local that comes to no cell twice, and calls see with where it is, and its cost.
func ways(x api.Tile, local, cost int, been []int, see func(local, cost int)) {
	see(local, cost)
	been = append(slices.Clone(been), local)
	for _, n := range besides(x, local) {
		if !slices.Contains(been, n) {
			ways(x, n, cost+int(x.C[n]), been, see)
		}
	}
}

// byWays is Spread, word for word: of each local the least of a seed's Key and the cost of a way to its Cell.
func byWays(x api.Tile, l []api.Seed) []int {
	far := slices.Repeat([]int{api.Inf}, len(x.C))
	for local := range far {
		if x.C[local] == api.Wall {
			continue
		}
		ways(x, local, 0, nil, func(end, cost int) {
			for _, s := range l {
				if s.Cell == end {
					far[local] = min(far[local], s.Key+cost)
				}
			}
		})
	}
	return far
}

// byRounds is Spread by going over all locals till nothing lessens.
func byRounds(x api.Tile, l []api.Seed) []int {
	far := slices.Repeat([]int{api.Inf}, len(x.C))
	beside := make([][]int, len(far))
	for local := range far {
		if x.C[local] != api.Wall {
			beside[local] = besides(x, local)
		}
	}
	for _, s := range l {
		far[s.Cell] = min(far[s.Cell], s.Key)
	}
	for changed := true; changed; {
		changed = false
		for local := range far {
			for _, n := range beside[local] {
				if d := far[n] + int(x.C[n]); d < far[local] {
					far[local], changed = d, true
				}
			}
		}
	}
	return far
}

// inOrder is Settled, by taking the least local that is left, again and again.
func inOrder(far []int) []int {
	left := slices.Clone(far)
	var out []int
	for {
		least := slices.Index(left, slices.Min(left))
		if left[least] == api.Inf {
			return out
		}
		out = append(out, least)
		left[least] = api.Inf
	}
}

// spread asks for what may be.
func spread(t *testing.T, x api.Tile, l []api.Seed) []int {
	t.Helper()
	far, code := sweep.Spread(x, l)
	if code != api.OK || len(far) != len(x.C) {
		t.Fatalf("Spread of %v, %v: %v, %d", x, l, far, code)
	}
	return far
}

// settled asks for what may be.
func settled(t *testing.T, x api.Tile, l []api.Seed) []int {
	t.Helper()
	order, code := sweep.Settled(x, l)
	if code != api.OK {
		t.Fatalf("Settled of %v, %v: %v, %d", x, l, order, code)
	}
	return order
}

// tells asks for both, and holds them against the distances that must be.
func tells(t *testing.T, x api.Tile, l []api.Seed, want []int) {
	t.Helper()
	if got := spread(t, x, l); !slices.Equal(got, want) {
		t.Fatalf("Spread of %v, %v: %v; not %v", x, l, got, want)
	}
	if got := settled(t, x, l); !slices.Equal(got, inOrder(want)) {
		t.Fatalf("Settled of %v, %v: %v; not %v", x, l, got, inOrder(want))
	}
}

// 9.1

func TestExample(t *testing.T) {
	x := api.Tile{W: 3, H: 1, C: []byte{5, 2, 9}}
	if far := spread(t, x, []api.Seed{here(2, 0)}); !slices.Equal(far, []int{11, 9, 0}) {
		t.Error(far)
	}
	if order := settled(t, x, []api.Seed{here(2, 0)}); !slices.Equal(order, []int{2, 1, 0}) {
		t.Error(order)
	}
}

func TestExampleOfTheWhole(t *testing.T) {
	x := api.Tile{W: 3, H: 1, C: []byte{5, 2, 9}}
	if there, back := spread(t, x, []api.Seed{here(2, 0)})[0], spread(t, x, []api.Seed{here(0, 0)})[2]; there != 11 || back != 7 {
		t.Error("there", there, "back", back)
	}
}

func TestSpreadIsTheLeastOfAllWays(t *testing.T) {
	numbers := row{9}
	for _, size := range [][2]int{{1, 1}, {1, 2}, {2, 1}, {2, 2}, {1, 5}, {5, 1}, {3, 2}, {2, 3}, {4, 2}, {3, 3}, {3, 4}, {4, 3}} {
		for i := range 40 {
			x := numbers.tile(size[0], size[1], i%4)
			l := numbers.seeds(x, 1+i/4)
			tells(t, x, l, byWays(x, l))
		}
	}
}

func TestSpreadOfEachPatternOfTwoByTwo(t *testing.T) {
	costs := []byte{1, 3, 254, api.Wall}
	for pattern := range 256 {
		x := api.Tile{W: 2, H: 2}
		for i := range 4 {
			x.C = append(x.C, costs[pattern>>(2*i)&3])
		}
		for local, cost := range x.C {
			if cost != api.Wall {
				l := []api.Seed{here(local, 6)}
				tells(t, x, l, byWays(x, l))
			}
		}
	}
}

func TestSpreadOfEachSize(t *testing.T) {
	numbers := row{1}
	for w := 1; w <= api.Span; w++ {
		for h := 1; h <= api.Span; h++ {
			for kind := range 4 {
				x := numbers.tile(w, h, kind)
				l := numbers.seeds(x, numbers.of(1, 2, 7, 60))
				tells(t, x, l, byRounds(x, l))
			}
		}
	}
}

func TestSpreadFromEachCell(t *testing.T) {
	numbers := row{2}
	for kind := range 4 {
		x := numbers.tile(16, 16, kind)
		for local, cost := range x.C {
			if cost != api.Wall {
				l := []api.Seed{here(local, 0)}
				tells(t, x, l, byRounds(x, l))
			}
		}
	}
}

func TestNoSideIsNearerThanAnother(t *testing.T) {
	numbers := row{3}
	x := numbers.tile(5, 4, 2)
	for local, cost := range x.C {
		for side := api.North; side <= api.Here; side++ {
			if cost != api.Wall && leadsOut(x, local, side) {
				l := []api.Seed{{Cell: local, Side: side, Key: 33}}
				tells(t, x, l, byRounds(x, []api.Seed{here(local, 33)}))
			}
		}
	}
}

func TestTheLeastOfTheSeedsOfACell(t *testing.T) {
	x := api.Tile{W: 1, H: 1, C: []byte{77}}
	tells(t, x, []api.Seed{{Side: api.East, Key: 9}, {Side: api.North, Key: 4}, {Side: api.East, Key: 6}}, []int{4})
	tells(t, x, []api.Seed{here(0, api.MaxKey)}, []int{api.MaxKey})
	tells(t, x, []api.Seed{here(0, 0), here(0, api.MaxKey)}, []int{0})
}

func TestACellOfASeedMayHaveANearerOne(t *testing.T) {
	x := api.Tile{W: 4, H: 1, C: []byte{1, 2, 3, 4}}
	tells(t, x, []api.Seed{here(0, 10), here(3, 18), here(2, 14)}, []int{10, 11, 13, 16})
	tells(t, x, []api.Seed{here(0, 10), here(3, 15), here(2, 13)}, []int{10, 11, 13, 15})
	tells(t, x, []api.Seed{here(3, 0), here(0, 9)}, []int{9, 7, 4, 0})
	tells(t, x, []api.Seed{here(3, 0), here(0, 8)}, []int{8, 7, 4, 0})
}

func TestKeysFarApart(t *testing.T) {
	for _, cost := range []byte{1, 2, 100, 253, 254} {
		x := api.Tile{W: 16, H: 1, C: bytes.Repeat([]byte{cost}, 16)}
		for _, first := range []int{0, 1, 255, 256, 1000, api.MaxKey - 6000} {
			for _, apart := range []int{0, 1, 252, 253, 254, 255, 256, 257, 258, 508, 509, 510, 511, 512, 513, 2800, 5900} {
				want := make([]int, 16)
				for local := range want {
					want[local] = min(first+local*int(cost), first+apart+(15-local)*int(cost))
				}
				tells(t, x, []api.Seed{here(0, first), {Cell: 15, Side: api.East, Key: first + apart}}, want)
			}
		}
	}
}

func TestKeysFromEndToEnd(t *testing.T) {
	x := api.Tile{W: 5, H: 1, C: []byte{9, api.Wall, 9, api.Wall, 9}}
	l := []api.Seed{here(0, api.MaxKey), here(2, 0), here(4, 1<<20)}
	tells(t, x, l, []int{api.MaxKey, api.Inf, 0, api.Inf, 1 << 20})
}

func TestManySeedsOfManyKeys(t *testing.T) {
	numbers := row{4}
	for _, gap := range []int{1, 100, 255, 256, 257, 4000} {
		x := numbers.tile(16, 16, 2)
		var l []api.Seed
		for i := range 4096 {
			if cell := numbers.below(256); x.C[cell] != api.Wall {
				l = append(l, here(cell, (4096-i)*gap))
			}
		}
		tells(t, x, l, byRounds(x, l))
	}
}

func TestRowsAreApart(t *testing.T) {
	x := api.Tile{W: 3, H: 4, C: bytes.Repeat([]byte{7, api.Wall, 7}, 4)}
	tells(t, x, []api.Seed{here(2, 0)}, []int{api.Inf, api.Inf, 0, api.Inf, api.Inf, 7, api.Inf, api.Inf, 14, api.Inf, api.Inf, 21})
}

func TestNoWayGoesByACorner(t *testing.T) {
	x := api.Tile{W: 3, H: 3, C: []byte{1, 255, 1, 255, 1, 255, 1, 255, 1}}
	for local := 0; local < 9; local += 2 {
		want := slices.Repeat([]int{api.Inf}, 9)
		want[local] = 5
		tells(t, x, []api.Seed{here(local, 5)}, want)
	}
}

func TestNoWayGoesThroughAWall(t *testing.T) {
	x := api.Tile{W: 3, H: 3, C: []byte{1, 255, 1, 1, 255, 1, 9, 254, 1}}
	tells(t, x, []api.Seed{here(0, 0)}, []int{0, api.Inf, 267, 1, api.Inf, 266, 2, 11, 265})
	x.C[7] = api.Wall
	tells(t, x, []api.Seed{here(0, 0)}, []int{0, api.Inf, api.Inf, 1, api.Inf, api.Inf, 2, api.Inf, api.Inf})
	tells(t, x, nil, slices.Repeat([]int{api.Inf}, 9))
	walls := api.Tile{W: 16, H: 16, C: bytes.Repeat([]byte{api.Wall}, 256)}
	tells(t, walls, nil, slices.Repeat([]int{api.Inf}, 256))
	walls.C[100] = 3
	want := slices.Repeat([]int{api.Inf}, 256)
	want[100] = 8
	tells(t, walls, []api.Seed{here(100, 8)}, want)
}

func TestADearCellIsGoneAround(t *testing.T) {
	x := api.Tile{W: 3, H: 2, C: []byte{1, 10, 1, 1, 1, 1}}
	tells(t, x, []api.Seed{here(0, 0)}, []int{0, 1, 4, 1, 2, 3})
	x.C[1] = 3
	tells(t, x, []api.Seed{here(0, 0)}, []int{0, 1, 4, 1, 2, 3})
	x.C[1] = 2
	tells(t, x, []api.Seed{here(0, 0)}, []int{0, 1, 3, 1, 2, 3})
}

func TestTheLongestWay(t *testing.T) {
	x := api.Tile{W: 16, H: 16, C: bytes.Repeat([]byte{254}, 256)}
	length := 0
	for y := 1; y < 16; y += 2 {
		for local := 16 * y; local < 16*y+16; local++ {
			x.C[local] = api.Wall
		}
		x.C[16*y+15*(y/2%2)] = 254
		length += 17
	}
	for _, key := range []int{0, api.MaxKey} {
		far := spread(t, x, []api.Seed{here(15, key)})
		if last := far[255]; last != key+254*(length-1) {
			t.Error("key", key, "last", last)
		}
		tells(t, x, []api.Seed{here(15, key)}, byRounds(x, []api.Seed{here(15, key)}))
	}
}

func TestWithoutSeedsNoWayLeadsThere(t *testing.T) {
	numbers := row{5}
	for _, size := range [][2]int{{1, 1}, {1, 16}, {16, 1}, {7, 3}, {16, 16}} {
		x := numbers.tile(size[0], size[1], 2)
		for _, l := range [][]api.Seed{nil, {}} {
			tells(t, x, l, slices.Repeat([]int{api.Inf}, len(x.C)))
			if order := settled(t, x, l); len(order) != 0 {
				t.Error(size, order)
			}
		}
	}
}

// refused asks for both with what may not be.
func refused(t *testing.T, x api.Tile, l []api.Seed) {
	t.Helper()
	if far, code := sweep.Spread(x, l); code != api.ErrArg || len(far) != 0 {
		t.Errorf("Spread of %d by %d with %d costs, %v: %v, %d", x.W, x.H, len(x.C), l, far, code)
	}
	if order, code := sweep.Settled(x, l); code != api.ErrArg || len(order) != 0 {
		t.Errorf("Settled of %d by %d with %d costs, %v: %v, %d", x.W, x.H, len(x.C), l, order, code)
	}
}

func TestTilesThatMayNotBe(t *testing.T) {
	ones := bytes.Repeat([]byte{1}, 300)
	for _, x := range []api.Tile{
		{}, {W: 1, H: 1}, {W: 1, H: 1, C: []byte{0}}, {W: 2, H: 2, C: ones[:3]}, {W: 2, H: 2, C: ones[:5]},
		{W: -1, H: -1, C: ones[:1]}, {W: 0, H: 1}, {W: 1, H: 0, C: ones[:1]}, {W: 17, H: 1, C: ones[:17]},
		{W: 1, H: 17, C: ones[:17]}, {W: 17, H: 17, C: ones[:289]}, {W: 8, H: 32, C: ones[:256]},
		{W: 1 << 32, H: 1 << 32}, {W: math.MinInt + 1, H: math.MinInt + 1, C: ones[:1]},
		{W: math.MaxInt, H: 1, C: ones[:1]}, {W: 3, H: 1, C: []byte{1, 1, 0}}, {W: 3, H: 1, C: []byte{0, 1, 1}},
	} {
		for _, l := range [][]api.Seed{nil, {}, {here(0, 0)}, {{Side: api.North}}, {here(-1, 0)}} {
			refused(t, x, l)
		}
	}
}

func TestSeedsThatMayNotBe(t *testing.T) {
	x := api.Tile{W: 3, H: 2, C: []byte{1, 2, 3, 4, api.Wall, 6}}
	bad := []api.Seed{
		here(4, 0), {Cell: 4, Side: api.South}, // a wall
		{Cell: 1, Side: api.South}, {Cell: 3, Side: api.East}, // a wall within the tile is no way out
		{Cell: 0, Side: api.East}, {Cell: 2, Side: api.West}, {Cell: 5, Side: api.North},
		here(6, 0), {Cell: 6, Side: api.East}, here(-1, 0), here(256, 0),
		{Cell: 0, Side: api.None}, {Cell: 0, Side: 6}, {Cell: 0, Side: -1},
		here(0, -1), here(0, api.MaxKey+1), here(0, api.Inf), here(0, 1<<32),
	}
	for _, n := range []int{math.MinInt, math.MinInt + 1, -1 << 32, 1 << 32, math.MaxInt - 1, math.MaxInt} {
		bad = append(bad, here(n, 0), here(0, n), api.Seed{Side: n})
	}
	good := []api.Seed{here(0, 0), {Cell: 0, Side: api.West, Key: 3}, {Cell: 5, Side: api.South, Key: api.MaxKey}, here(2, 5)}
	if _, code := sweep.Spread(x, good); code != api.OK {
		t.Fatal(code)
	}
	for _, s := range bad {
		refused(t, x, []api.Seed{s})
		for place := range len(good) + 1 {
			refused(t, x, slices.Insert(slices.Clone(good), place, s))
		}
	}
}

// 9.2

func TestSettledOfThoseThatAreAsNear(t *testing.T) {
	x := api.Tile{W: 3, H: 3, C: bytes.Repeat([]byte{1}, 9)}
	if got := settled(t, x, []api.Seed{here(4, 0)}); !slices.Equal(got, []int{4, 1, 3, 5, 7, 0, 2, 6, 8}) {
		t.Error("from the middle:", got)
	}
	l := []api.Seed{here(8, 7), here(5, 7), here(0, 7), here(3, 7), here(2, 7), here(6, 7), here(7, 7), here(1, 7), here(4, 7)}
	if got := settled(t, x, l); !slices.Equal(got, []int{0, 1, 2, 3, 4, 5, 6, 7, 8}) {
		t.Error("from all:", got)
	}
	if got := settled(t, x, []api.Seed{here(8, 1), here(6, 1), here(2, 0)}); !slices.Equal(got, []int{2, 1, 5, 6, 8, 0, 3, 4, 7}) {
		t.Error("from three:", got)
	}
}

func TestSettledLeavesOutWhereNoWayLeadsFrom(t *testing.T) {
	x := api.Tile{W: 5, H: 1, C: []byte{1, 1, api.Wall, 1, 1}}
	if got := settled(t, x, []api.Seed{here(4, api.MaxKey)}); !slices.Equal(got, []int{4, 3}) {
		t.Error(got)
	}
	if got := settled(t, x, []api.Seed{here(4, 3), here(1, 2)}); !slices.Equal(got, []int{1, 0, 4, 3}) {
		t.Error(got)
	}
}

// 9.3

// byBeside is what Spread must tell of an open local, by its seeds, and by the locals beside it.
func byBeside(x api.Tile, l []api.Seed, far []int, local int) int {
	least := api.Inf
	for side := api.North; side <= api.Here; side++ {
		least = min(least, seeds.Best(l, local, side))
	}
	for _, n := range besides(x, local) {
		least = min(least, far[n]+int(x.C[n]))
	}
	return least
}

func TestEachIsTheLeastOfItsSeedsAndOfThoseBesideIt(t *testing.T) {
	numbers := row{6}
	for i := range 400 {
		x := numbers.tile(1+numbers.below(16), 1+numbers.below(16), i%4)
		l := numbers.seeds(x, numbers.below(30))
		far := spread(t, x, l)
		for local, cost := range x.C {
			want := api.Inf
			if cost != api.Wall {
				want = byBeside(x, l, far, local)
			}
			if far[local] != want {
				t.Fatalf("%v, %v: %d at %d; not %d", x, l, far[local], local, want)
			}
		}
	}
}

func TestOneMoreSeedMakesNothingGreater(t *testing.T) {
	numbers := row{7}
	for i := range 100 {
		x := numbers.tile(1+numbers.below(16), 1+numbers.below(16), i%4)
		l := numbers.seeds(x, 12)
		last := slices.Repeat([]int{api.Inf}, len(x.C))
		for n := range l {
			now, alone := spread(t, x, l[:n+1]), spread(t, x, l[n:n+1])
			for local := range now {
				if now[local] > last[local] || now[local] != min(last[local], alone[local]) {
					t.Fatalf("%v, %v: %d at %d behind %d", x, l[:n+1], now[local], local, last[local])
				}
			}
			last = now
		}
	}
}

func TestNoOrderOfSeedsMatters(t *testing.T) {
	numbers := row{8}
	for i := range 100 {
		x := numbers.tile(1+numbers.below(16), 1+numbers.below(16), i%4)
		l := numbers.seeds(x, 20)
		want := spread(t, x, l)
		twice := append(slices.Clone(l), l...)
		slices.Reverse(twice)
		for _, m := range [][]api.Seed{seeds.Sort(l), twice, twice[:len(l)]} {
			tells(t, x, m, want)
		}
	}
}

// T1

// fields are of all sectors, each made of its tile and what the fields beside it told last, till none changes.
func fields(t *testing.T, m api.Map, goal int) [][]int {
	t.Helper()
	across, down := where.Sectors(m.W, m.H)
	all := make([][]int, across*down)
	// No least way is longer than there are cells, so in as many rounds, and two more, all is told.
	for rounds, changed := 0, true; changed; rounds++ {
		if rounds > len(m.C)+2 {
			t.Fatal("the fields never rest")
		}
		changed = false
		for sector := range all {
			x, ok := atlas.Tile(m, sector)
			if !ok {
				t.Fatal("no sector", sector)
			}
			now := spread(t, x, outside(m, all, goal, sector))
			if !slices.Equal(now, all[sector]) {
				all[sector], changed = now, true
			}
		}
	}
	return all
}

// outside are the seeds of a sector, as far as the fields tell by now.
func outside(m api.Map, all [][]int, goal, sector int) []api.Seed {
	var l []api.Seed
	tw, th := where.Size(m.W, m.H, sector)
	for local := range tw * th {
		cell := where.Global(m.W, m.H, sector, local)
		if m.C[cell] == api.Wall {
			continue
		}
		if cell == goal {
			l = append(l, here(local, 0))
		}
		for side := api.North; side <= api.West; side++ {
			n := where.Step(m.W, m.H, cell, side)
			if n < 0 || where.Sector(m.W, m.H, n) == sector || all[where.Sector(m.W, m.H, n)] == nil {
				continue
			}
			if far := all[where.Sector(m.W, m.H, n)][where.Local(m.W, m.H, n)]; far < api.Inf {
				l = append(l, api.Seed{Cell: local, Side: side, Key: int(m.C[n]) + far})
			}
		}
	}
	return l
}

func TestSectorsTellTheDistancesOfTheMap(t *testing.T) {
	numbers := row{10}
	for _, size := range [][2]int{{1, 1}, {16, 16}, {17, 1}, {1, 17}, {20, 18}, {33, 17}, {40, 3}, {48, 48}} {
		for kind := range 4 {
			// A map as one great tile: the reckoning by rounds does not ask how long its sides are.
			whole := numbers.tile(size[0], size[1], kind)
			m := api.Map{W: whole.W, H: whole.H, C: whole.C}
			for _, goal := range []int{0, len(m.C) / 2, len(m.C) - 1} {
				want := slices.Repeat([]int{api.Inf}, len(m.C))
				if m.C[goal] != api.Wall {
					want = byRounds(whole, []api.Seed{here(goal, 0)})
				}
				all := fields(t, m, goal)
				for cell := range want {
					got := all[where.Sector(m.W, m.H, cell)][where.Local(m.W, m.H, cell)]
					if got != want[cell] {
						t.Fatalf("%v of kind %d, goal %d: %d at %d; not %d", size, kind, goal, got, cell, want[cell])
					}
				}
			}
		}
	}
}

// Rules 2, 3, 8

func TestWhatIsHandedInStays(t *testing.T) {
	numbers := row{11}
	for i := range 100 {
		x := numbers.tile(1+numbers.below(16), 1+numbers.below(16), i%4)
		l := numbers.seeds(x, 20)
		was := fmt.Sprint(x, l)
		sweep.Spread(x, l)
		sweep.Settled(x, l)
		if now := fmt.Sprint(x, l); now != was {
			t.Fatalf("%s: now %s", was, now)
		}
	}
}

func TestAnswersAreTheCallersOwn(t *testing.T) {
	x := api.Tile{W: 3, H: 2, C: []byte{1, 2, 3, 4, 5, 6}}
	l := []api.Seed{here(2, 9), here(0, 4)}
	far, order := spread(t, x, l), settled(t, x, l)
	wasFar, wasOrder := slices.Clone(far), slices.Clone(order)
	again, anew := spread(t, x, l), settled(t, x, l)
	for i := range again {
		again[i], anew[i] = -7, -7
	}
	if !slices.Equal(far, wasFar) || !slices.Equal(order, wasOrder) {
		t.Error("two answers share memory")
	}
	tells(t, x, l, wasFar)
	x.C[1], l[0].Key = 200, 0
	if !slices.Equal(far, wasFar) || !slices.Equal(order, wasOrder) {
		t.Error("what is handed in is kept")
	}
	tells(t, x, l, byRounds(x, l))
}

func TestNothingBehindTheListsIsRead(t *testing.T) {
	costs := []byte{1, 2, 3, 4, 1, 1, 0}
	l := []api.Seed{here(3, 9), here(0, 0), here(-1, -1)}
	x := api.Tile{W: 2, H: 2, C: costs[:4]}
	tells(t, x, l[:1], []int{15, 13, 13, 9})
	tells(t, x, l[:0], slices.Repeat([]int{api.Inf}, 4))
	if !bytes.Equal(costs, []byte{1, 2, 3, 4, 1, 1, 0}) || !slices.Equal(l, []api.Seed{here(3, 9), here(0, 0), here(-1, -1)}) {
		t.Error("changed:", costs, l)
	}
}
