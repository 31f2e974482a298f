package table_test

import (
	"bytes"
	"fmt"
	"math"
	"slices"
	"testing"

	"herdsman/api"
	"herdsman/atlas"
	"herdsman/border"
	"herdsman/grid"
	"herdsman/sweep"
	"herdsman/table"
	"herdsman/where"
)

// row of numbers, always the same one.
type row struct{ last uint64 }

func (r *row) below(n int) int {
	r.last = r.last*6364136223846793005 + 1442695040888963407
	return int(r.last >> 33 % uint64(n))
}

// of is one of these.
func (r *row) of(l ...int) int { return l[r.below(len(l))] }

// cost is one of a kind: open ground, ground of few costs with walls, ground of all costs, a maze.
func (r *row) cost(kind int) byte {
	switch kind {
	case 0:
		return 1
	case 1:
		return byte(r.of(1, 1, 2, 3, api.Wall))
	case 2:
		return byte(1 + r.below(255))
	}
	return byte(r.of(1, 9, 253, 254, api.Wall, api.Wall))
}

// costs are n of a kind.
func (r *row) costs(n, kind int) []byte {
	c := make([]byte, n)
	for i := range c {
		c[i] = r.cost(kind)
	}
	return c
}

// tile of that size, with costs of that kind.
func (r *row) tile(w, h, kind int) api.Tile {
	return api.Tile{W: w, H: h, C: r.costs(w*h, kind)}
}

// some are a few of these, in order.
func (r *row) some(l []int) []int {
	var out []int
	every := 1 + r.below(4)
	for _, n := range l {
		if r.below(every) == 0 {
			out = append(out, n)
		}
	}
	return out
}

// odd numbers, that no list of a tile has.
func odd() []int {
	return []int{math.MinInt, math.MinInt + 1, -1 << 32, -257, -256, -2, -1, 256, 257, 1 << 32, 1<<32 + 1, api.Inf, math.MaxInt - 1, math.MaxInt}
}

// open are the locals that are no walls.
func open(x api.Tile) []int {
	var l []int
	for local, cost := range x.C {
		if cost != api.Wall {
			l = append(l, local)
		}
	}
	return l
}

// beside tells whether two locals are beside each other, by their columns and rows.
func beside(x api.Tile, a, b int) bool {
	across, down := a%x.W-b%x.W, a/x.W-b/x.W
	return across*across+down*down == 1
}

// pairs are how far each local is from each, by letting the ways go over one local more, again and again.
func pairs(x api.Tile) [][]int {
	far := make([][]int, len(x.C))
	for a := range far {
		far[a] = slices.Repeat([]int{api.Inf}, len(x.C))
		for b, cost := range x.C {
			switch {
			case x.C[a] == api.Wall || cost == api.Wall:
			case a == b:
				far[a][b] = 0
			case beside(x, a, b):
				far[a][b] = int(cost)
			}
		}
	}
	for _, over := range open(x) {
		for a := range far {
			if far[a][over] == api.Inf {
				continue
			}
			for b := range far[a] {
				far[a][b] = min(far[a][b], far[a][over]+far[over][b])
			}
		}
	}
	return far
}

// to asks for what may be.
func to(t *testing.T, x api.Tile, local int) []int {
	t.Helper()
	far, code := table.To(x, local)
	if code != api.OK || len(far) != len(x.C) {
		t.Fatalf("To of %v, %d: %v, %d", x, local, far, code)
	}
	return far
}

// made asks for what may be.
func made(t *testing.T, x api.Tile, l []int) []int {
	t.Helper()
	d, code := table.Make(x, l)
	if code != api.OK || len(d) != len(l)*len(l) {
		t.Fatalf("Make of %v, %v: %v, %d", x, l, d, code)
	}
	return d
}

// same holds an answer against what it must be.
func same(t *testing.T, what any, got, want []int) {
	t.Helper()
	if !slices.Equal(got, want) {
		t.Fatalf("%v: %v; not %v", what, got, want)
	}
}

// eachTile calls see with tiles of many sizes and all kinds.
func eachTile(see func(x api.Tile, numbers *row)) {
	numbers := &row{1}
	for _, size := range [][2]int{
		{1, 1}, {1, 2}, {2, 1}, {2, 2}, {3, 1}, {1, 3}, {3, 3}, {4, 2}, {2, 5}, {1, 16}, {16, 1}, {7, 5}, {5, 8},
		{16, 2}, {3, 16}, {9, 9}, {15, 16}, {16, 16},
	} {
		for kind := range 4 {
			see(numbers.tile(size[0], size[1], kind), numbers)
		}
	}
}

// 12.1

func TestExample(t *testing.T) {
	x := api.Tile{W: 3, H: 1, C: []byte{5, 2, 9}}
	same(t, "Make", made(t, x, []int{0, 2}), []int{0, 11, 7, 0})
	same(t, "To", to(t, x, 2), []int{11, 9, 0})
}

func TestExampleOfTheWhole(t *testing.T) {
	x := api.Tile{W: 3, H: 1, C: []byte{5, 2, 9}}
	if there, back := to(t, x, 2)[0], to(t, x, 0)[2]; there != 11 || back != 7 {
		t.Error("there", there, "back", back)
	}
}

func TestToIsTheLeastOfAllWays(t *testing.T) {
	eachTile(func(x api.Tile, _ *row) {
		far := pairs(x)
		for _, goal := range open(x) {
			got := to(t, x, goal)
			for from := range far {
				if got[from] != far[from][goal] {
					t.Fatalf("%v: %d from %d to %d; not %d", x, got[from], from, goal, far[from][goal])
				}
			}
		}
	})
}

func TestToIsWhatOneSeedTells(t *testing.T) {
	eachTile(func(x api.Tile, _ *row) {
		for local := -1; local <= len(x.C); local++ {
			want, wantCode := sweep.Spread(x, []api.Seed{{Cell: local, Side: api.Here, Key: 0}})
			if got, code := table.To(x, local); code != wantCode || !slices.Equal(got, want) {
				t.Fatalf("%v, %d: %v, %d; not %v, %d", x, local, got, code, want, wantCode)
			}
		}
	})
}

func TestToPaysForTheGoalAndNotForTheStart(t *testing.T) {
	x := api.Tile{W: 2, H: 2, C: []byte{100, 20, 3, api.Wall}}
	same(t, "to 0", to(t, x, 0), []int{0, 100, 100, api.Inf})
	same(t, "to 1", to(t, x, 1), []int{20, 0, 120, api.Inf})
	same(t, "to 2", to(t, x, 2), []int{3, 103, 0, api.Inf})
	same(t, "to one alone", to(t, api.Tile{W: 1, H: 1, C: []byte{254}}, 0), []int{0})
}

func TestToTheEndOfTheLongestWay(t *testing.T) {
	x := api.Tile{W: 16, H: 16, C: bytes.Repeat([]byte{254}, 256)}
	for y := 1; y < 16; y += 2 {
		for local := 16 * y; local < 16*y+16; local++ {
			x.C[local] = api.Wall
		}
		x.C[16*y+15*(y/2%2)] = 254
	}
	// From the first row's east end to that of row 14: 8 rows of 15 steps, and 2 steps from each to the next one.
	far, longest := to(t, x, 15), 254*(8*15+7*2)
	if first, last := far[15], far[16*14+15]; first != 0 || last != longest {
		t.Error(first, last)
	}
	same(t, "there and back", made(t, x, []int{15, 16*14 + 15}), []int{0, longest, longest, 0})
}

// refused asks for what may not be.
func refused(t *testing.T, x api.Tile, l []int) {
	t.Helper()
	if d, code := table.Make(x, l); code != api.ErrArg || len(d) != 0 {
		t.Errorf("Make of %d by %d with %d costs, %v: %v, %d", x.W, x.H, len(x.C), l, d, code)
	}
}

// refusedTo asks for what may not be.
func refusedTo(t *testing.T, x api.Tile, local int) {
	t.Helper()
	if far, code := table.To(x, local); code != api.ErrArg || len(far) != 0 {
		t.Errorf("To of %d by %d with %d costs, %d: %v, %d", x.W, x.H, len(x.C), local, far, code)
	}
}

func TestTilesThatMayNotBe(t *testing.T) {
	ones := bytes.Repeat([]byte{1}, 300)
	for _, x := range []api.Tile{
		{}, {W: 1, H: 1}, {W: 1, H: 1, C: []byte{0}}, {W: 2, H: 2, C: ones[:3]}, {W: 2, H: 2, C: ones[:5]},
		{W: -1, H: -1, C: ones[:1]}, {W: 0, H: 1}, {W: 1, H: 0, C: ones[:1]}, {W: 17, H: 1, C: ones[:17]},
		{W: 1, H: 17, C: ones[:17]}, {W: 17, H: 17, C: ones[:289]}, {W: 8, H: 32, C: ones[:256]},
		{W: 1 << 32, H: 1 << 32}, {W: math.MinInt + 1, H: math.MinInt + 1, C: ones[:1]},
		{W: math.MaxInt, H: 1, C: ones[:1]}, {W: 3, H: 1, C: []byte{1, 1, 0}}, {W: 3, H: 1, C: []byte{0, 1, 1}},
	} {
		for _, l := range [][]int{nil, {}, {0}, {1}, {0, 1}, {1, 0}, {-1}} {
			refused(t, x, l)
		}
		for local := -1; local < 3; local++ {
			refusedTo(t, x, local)
		}
	}
}

func TestToOfLocalsThatMayNotBe(t *testing.T) {
	eachTile(func(x api.Tile, _ *row) {
		for local, cost := range x.C {
			if cost == api.Wall {
				refusedTo(t, x, local)
			}
		}
		for _, local := range append(odd(), len(x.C), len(x.C)+1) {
			refusedTo(t, x, local)
		}
	})
}

// 12.2

// rows are what Make must tell.
func rows(far [][]int, l []int) []int {
	var d []int
	for _, from := range l {
		for _, to := range l {
			d = append(d, far[from][to])
		}
	}
	return d
}

func TestMakeOfAllOpenLocals(t *testing.T) {
	eachTile(func(x api.Tile, _ *row) {
		l := open(x)
		same(t, x, made(t, x, l), rows(pairs(x), l))
	})
}

func TestMakeOfSome(t *testing.T) {
	eachTile(func(x api.Tile, numbers *row) {
		far := pairs(x)
		for range 10 {
			l := numbers.some(open(x))
			same(t, fmt.Sprint(x, l), made(t, x, l), rows(far, l))
		}
	})
}

func TestMakeOfEachOneAndEachTwo(t *testing.T) {
	x := (&row{2}).tile(6, 4, 1)
	far, l := pairs(x), open(x)
	for i, a := range l {
		same(t, a, made(t, x, []int{a}), []int{0})
		for _, b := range l[i+1:] {
			same(t, fmt.Sprint(a, b), made(t, x, []int{a, b}), []int{0, far[a][b], far[b][a], 0})
		}
	}
}

func TestMakeGoesByLocalsThatAreNotInTheList(t *testing.T) {
	x := api.Tile{W: 3, H: 2, C: []byte{1, 100, 2, 3, 4, 5}}
	same(t, "around", made(t, x, []int{0, 2}), []int{0, 14, 13, 0})
	x.C[4] = api.Wall
	same(t, "through", made(t, x, []int{0, 2}), []int{0, 102, 101, 0})
	x.C[1] = api.Wall
	same(t, "no way", made(t, x, []int{0, 2}), []int{0, api.Inf, api.Inf, 0})
}

func TestMakeOfNone(t *testing.T) {
	numbers := row{3}
	for _, size := range [][2]int{{1, 1}, {1, 16}, {16, 1}, {7, 3}, {16, 16}} {
		for kind := range 4 {
			x := numbers.tile(size[0], size[1], kind)
			same(t, size, made(t, x, nil), nil)
			same(t, size, made(t, x, []int{}), nil)
		}
	}
	same(t, "walls", made(t, api.Tile{W: 16, H: 16, C: bytes.Repeat([]byte{api.Wall}, 256)}, nil), nil)
}

func TestListsThatMayNotBe(t *testing.T) {
	x := api.Tile{W: 4, H: 2, C: []byte{1, 2, api.Wall, 4, 5, api.Wall, 7, 8}}
	good := []int{0, 1, 3, 4, 6, 7}
	made(t, x, good)
	for place := range len(good) + 1 {
		for _, local := range append(odd(), 2, 5, 8, 9) {
			refused(t, x, slices.Insert(slices.Clone(good), place, local))
			refused(t, x, []int{local})
		}
		for _, local := range good {
			refused(t, x, slices.Insert(slices.Clone(good), place, local))
		}
	}
	for i := range good {
		for j := range i {
			l := slices.Clone(good)
			l[i], l[j] = l[j], l[i]
			refused(t, x, l)
			refused(t, x, []int{good[i], good[j]})
		}
		refused(t, x, []int{good[i], good[i]})
	}
	refused(t, x, []int{0, 1, 2, 3, 4, 5, 6, 7})
	refused(t, x, slices.Repeat([]int{0}, 70000))
}

func TestAWallRefusesAWholeList(t *testing.T) {
	eachTile(func(x api.Tile, _ *row) {
		all := make([]int, len(x.C))
		for local := range all {
			all[local] = local
		}
		if bytes.IndexByte(x.C, api.Wall) < 0 {
			made(t, x, all)
		} else {
			refused(t, x, all)
		}
	})
}

// 12.3

func TestAWayOverAThirdOneIsNeverShorter(t *testing.T) {
	eachTile(func(x api.Tile, numbers *row) {
		l := numbers.some(open(x))
		d, n := made(t, x, l), len(l)
		for i := range n {
			for j := range n {
				for k := range n {
					if d[i*n+j] > d[i*n+k]+d[k*n+j] {
						t.Fatalf("%v, %v: %d to %d is shorter over %d", x, l, l[i], l[j], l[k])
					}
				}
			}
		}
	})
}

func TestBackIsAsFarButForTheEnds(t *testing.T) {
	eachTile(func(x api.Tile, _ *row) {
		l := open(x)
		d, n := made(t, x, l), len(l)
		for i := range n {
			for j := range n {
				there, back := d[i*n+j], d[j*n+i]
				if (there == api.Inf) != (back == api.Inf) || there < api.Inf && there+int(x.C[l[i]]) != back+int(x.C[l[j]]) {
					t.Fatalf("%v: %d from %d to %d, %d back", x, there, l[i], l[j], back)
				}
			}
		}
	})
}

// T1

// cuts is a map cut into sectors, with a table of the border cells of each of them.
type cuts struct {
	m     api.Map
	g     *grid.Grid
	tiles []api.Tile
	nodes [][]int // cells
	d     [][]int
}

func cut(t *testing.T, m api.Map) cuts {
	t.Helper()
	c := cuts{m: m, g: grid.New(m, 0)}
	across, down := where.Sectors(m.W, m.H)
	for sector := range across * down {
		x, ok := atlas.Tile(m, sector)
		if !ok {
			t.Fatal("no sector", sector)
		}
		nodes := border.Nodes(c.g, sector)
		var l []int
		for _, cell := range nodes {
			l = append(l, c.local(cell))
		}
		c.tiles, c.nodes, c.d = append(c.tiles, x), append(c.nodes, nodes), append(c.d, made(t, x, l))
	}
	return c
}

func (c cuts) sector(cell int) int { return where.Sector(c.m.W, c.m.H, cell) }

func (c cuts) local(cell int) int { return where.Local(c.m.W, c.m.H, cell) }

// byNodes is how far the goal is from each node, by the tables, the steps between sectors, and the goal's own sector.
func (c cuts) byNodes(t *testing.T, goal int) map[int]int {
	far := map[int]int{}
	home := c.sector(goal)
	toGoal := to(t, c.tiles[home], c.local(goal))
	for sector, nodes := range c.nodes {
		for _, cell := range nodes {
			far[cell] = api.Inf
			if sector == home {
				far[cell] = toGoal[c.local(cell)]
			}
		}
	}
	for changed := true; changed; {
		changed = false
		for sector, nodes := range c.nodes {
			for i, from := range nodes {
				least := far[from]
				for j, over := range nodes {
					least = min(least, c.d[sector][i*len(nodes)+j]+far[over])
				}
				for _, e := range border.Cross(c.g, from) {
					least = min(least, e.Cost+far[e.To])
				}
				if least < far[from] {
					far[from], changed = least, true
				}
			}
		}
	}
	return far
}

// all is how far the goal is from each cell: within its sector, or by a node of it.
func (c cuts) all(t *testing.T, goal int) []int {
	far := slices.Repeat([]int{api.Inf}, len(c.m.C))
	if c.m.C[goal] == api.Wall {
		return far
	}
	byNodes := c.byNodes(t, goal)
	lessen := func(sector, over, rest int) {
		for local, within := range to(t, c.tiles[sector], c.local(over)) {
			cell := where.Global(c.m.W, c.m.H, sector, local)
			far[cell] = min(far[cell], within+rest)
		}
	}
	lessen(c.sector(goal), goal, 0)
	for sector, nodes := range c.nodes {
		for _, cell := range nodes {
			lessen(sector, cell, byNodes[cell])
		}
	}
	return far
}

// byRounds is the same without sectors, by going over all cells till nothing lessens.
func byRounds(m api.Map, goal int) []int {
	far := slices.Repeat([]int{api.Inf}, len(m.C))
	if m.C[goal] == api.Wall {
		return far
	}
	far[goal] = 0
	for changed := true; changed; {
		changed = false
		for cell, cost := range m.C {
			if cost == api.Wall {
				continue
			}
			for side := api.North; side <= api.West; side++ {
				n := where.Step(m.W, m.H, cell, side)
				if n >= 0 && m.C[n] != api.Wall && far[n]+int(m.C[n]) < far[cell] {
					far[cell], changed = far[n]+int(m.C[n]), true
				}
			}
		}
	}
	return far
}

func TestTablesAndCrossesTellAllDistances(t *testing.T) {
	numbers := row{4}
	for _, size := range [][2]int{{1, 1}, {16, 16}, {17, 1}, {1, 17}, {20, 18}, {33, 17}, {40, 3}, {48, 48}} {
		for kind := range 4 {
			m := api.Map{W: size[0], H: size[1], C: numbers.costs(size[0]*size[1], kind)}
			c := cut(t, m)
			for _, goal := range []int{0, numbers.below(len(m.C)), len(m.C) - 1} {
				same(t, fmt.Sprint(size, " goal ", goal), c.all(t, goal), byRounds(m, goal))
			}
		}
	}
}

// Rules 2, 3, 8

func TestWhatIsHandedInStays(t *testing.T) {
	eachTile(func(x api.Tile, numbers *row) {
		l := numbers.some(open(x))
		was := fmt.Sprint(x, l)
		table.To(x, numbers.below(len(x.C)))
		table.Make(x, l)
		slices.Reverse(l)
		table.Make(x, l)
		slices.Reverse(l)
		if now := fmt.Sprint(x, l); now != was {
			t.Fatalf("%s: now %s", was, now)
		}
	})
}

func TestAnswersAreTheCallersOwn(t *testing.T) {
	x := api.Tile{W: 3, H: 2, C: []byte{1, 2, 3, 4, 5, 6}}
	l := []int{0, 2, 5}
	far, d := to(t, x, 2), made(t, x, l)
	wasFar, wasD := slices.Clone(far), slices.Clone(d)
	clear(to(t, x, 2))
	clear(made(t, x, l))
	same(t, "To", far, wasFar)
	same(t, "Make", d, wasD)
	same(t, "To again", to(t, x, 2), wasFar)
	same(t, "Make again", made(t, x, l), wasD)
	x.C[1], l[0] = 200, 1
	same(t, "To of what is kept", far, wasFar)
	same(t, "Make of what is kept", d, wasD)
	same(t, "Make of others", made(t, x, l), rows(pairs(x), l))
}

func TestNothingBehindTheListsIsRead(t *testing.T) {
	costs, l := []byte{1, 2, 3, 4, 1, 1, 0}, []int{0, 3, 2, -1}
	x := api.Tile{W: 2, H: 2, C: costs[:4]}
	same(t, "To", to(t, x, 3), []int{6, 4, 4, 0})
	same(t, "Make", made(t, x, l[:2]), []int{0, 6, 3, 0})
	same(t, "Make of none", made(t, x, l[:0]), nil)
	refusedTo(t, x, 4)
	if !bytes.Equal(costs, []byte{1, 2, 3, 4, 1, 1, 0}) || !slices.Equal(l, []int{0, 3, 2, -1}) {
		t.Error("changed:", costs, l)
	}
}
