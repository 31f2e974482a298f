package route_test

import (
	"bytes"
	"fmt"
	"math"
	"slices"
	"testing"

	"herdsman/api"
	"herdsman/border"
	"herdsman/grid"
	"herdsman/mesh"
	"herdsman/route"
)

// odd numbers: what a program may hand over by mistake. None is a cell.
func odd() []int {
	return []int{
		math.MinInt, math.MinInt + 1, -1 << 40, -1 << 32, -256, -17, -2, -1,
		math.MaxInt, math.MaxInt - 1, 1 << 62, api.Inf, 1<<32 + 1, 1 << 32, 1 << 31, 1 << 20,
	}
}

// sizes of maps: of one sector, of sectors that are whole, or short, or one cell wide, in rows, columns and squares.
func sizes() [][2]int {
	return [][2]int{
		{1, 1}, {16, 16}, {17, 1}, {1, 17}, {2, 17}, {17, 16}, {16, 17}, {17, 17}, {20, 20}, {33, 18}, {31, 33},
		{48, 48}, {50, 3}, {3, 50},
	}
}

// row of numbers, always the same one.
type row struct{ last uint64 }

func (r *row) below(n int) int {
	r.last = r.last*6364136223846793005 + 1442695040888963407
	return int(r.last >> 33 % uint64(n))
}

// cost is one of a kind: open ground, ground of few walls, ground of all costs, a maze.
func (r *row) cost(kind int) byte {
	switch kind {
	case 0:
		return 1
	case 1:
		return []byte{1, 1, 2, 3, 254, api.Wall}[r.below(6)]
	case 2:
		return byte(1 + r.below(255))
	}
	return []byte{1, 254, api.Wall}[r.below(3)]
}

// of is a map of that size, with costs of that kind.
func (r *row) of(w, h, kind int) api.Map {
	m := api.Map{W: w, H: h, C: make([]byte, w*h)}
	for cell := range m.C {
		m.C[cell] = r.cost(kind)
	}
	return m
}

// eachMap calls do with maps of all sizes and kinds.
func eachMap(do func(m api.Map, numbers *row)) {
	numbers := &row{1}
	for _, size := range sizes() {
		for kind := range 4 {
			do(numbers.of(size[0], size[1], kind), numbers)
		}
	}
}

// ones is a map of ones, but for walls.
func ones(w, h int, walls ...int) api.Map {
	m := api.Map{W: w, H: h, C: bytes.Repeat([]byte{1}, w*h)}
	for _, cell := range walls {
		m.C[cell] = api.Wall
	}
	return m
}

// drawn is a map of rows: # is a wall, 9 costs 254, all else costs 1.
func drawn(rows ...string) api.Map {
	m := ones(len(rows[0]), len(rows))
	for cell := range m.C {
		switch rows[cell/m.W][cell%m.W] {
		case '#':
			m.C[cell] = api.Wall
		case '9':
			m.C[cell] = 254
		}
	}
	return m
}

// over is a grid of a map, a mesh over it, and a finder over both.
func over(t *testing.T, m api.Map) (*grid.Grid, *mesh.Mesh, *route.Finder) {
	t.Helper()
	g := grid.New(m, 0)
	b := mesh.New(g)
	f := route.New(b, g)
	if f == nil {
		t.Fatal("no finder over a map of", m.W, m.H)
	}
	return g, b, f
}

func sector(m api.Map, cell int) int { return cell/m.W/16*((m.W+15)/16) + cell%m.W/16 }

// beside are the cells beside a cell to the north, east, south, west; -1 where the map ends.
func beside(m api.Map, cell int) [4]int {
	l := [4]int{cell - m.W, cell + 1, cell + m.W, cell - 1}
	for side, ends := range [4]bool{cell < m.W, (cell+1)%m.W == 0, cell+m.W >= m.W*m.H, cell%m.W == 0} {
		if ends {
			l[side] = -1
		}
	}
	return l
}

// isNode tells whether a cell is an open one at its sector's border.
func isNode(m api.Map, cell int) bool {
	return m.C[cell] != api.Wall && slices.ContainsFunc(all(4), func(side int) bool {
		n := beside(m, cell)[side]
		return n >= 0 && sector(m, n) != sector(m, cell)
	})
}

// all is a list of the numbers from 0 on.
func all(n int) []int {
	l := make([]int, n)
	for i := range l {
		l[i] = i
	}
	return l
}

// byRounds is how far the goal is from each cell, without sectors, by going over all cells till nothing lessens.
func byRounds(m api.Map, goal int) []int {
	far := slices.Repeat([]int{api.Inf}, len(m.C))
	if m.C[goal] == api.Wall {
		return far
	}
	far[goal] = 0
	for changed := true; changed; {
		changed = false
		for cell, cost := range m.C {
			if cost == api.Wall {
				continue
			}
			for _, n := range beside(m, cell) {
				if n >= 0 && m.C[n] != api.Wall && far[n]+int(m.C[n]) < far[cell] {
					far[cell], changed = far[n]+int(m.C[n]), true
				}
			}
		}
	}
	return far
}

// expected is what a route to a goal tells of each cell.
func expected(m api.Map, goal int) []int {
	far := byRounds(m, goal)
	for cell := range far {
		if !isNode(m, cell) {
			far[cell] = api.Inf
		}
	}
	return far
}

// told is what a route tells of each cell.
func told(m api.Map, r *route.Route) []int {
	far := all(len(m.C))
	for cell := range far {
		far[cell] = r.At(cell)
	}
	return far
}

// holds holds what a route tells against what must be.
func holds(t *testing.T, m api.Map, r *route.Route, goal int, epoch int64, want []int) {
	t.Helper()
	what := fmt.Sprint(m.W, " ", m.H, " to ", goal)
	if r == nil || r.Goal() != goal || r.Epoch() != epoch {
		t.Fatal(what, "Goal", r.Goal(), "Epoch", r.Epoch(), "not", epoch)
	}
	for cell, got := range told(m, r) {
		if got != want[cell] {
			t.Fatal(what, "At", cell, got, "not", want[cell])
		}
	}
	for _, cell := range append(odd(), len(m.C), len(m.C)+1) {
		if r.At(cell) != api.Inf {
			t.Fatal(what, "At", cell, r.At(cell))
		}
	}
}

// keeps holds what a finder tells of itself against what must be.
func keeps(t *testing.T, f *route.Finder, count uint64, goal int, epoch int64, ok bool) {
	t.Helper()
	if f.Count() != count {
		t.Fatal("Count", f.Count(), "not", count)
	}
	if gotGoal, gotEpoch, gotOK := f.Kept(); gotGoal != goal || gotEpoch != epoch || gotOK != ok {
		t.Fatal("Kept", gotGoal, gotEpoch, gotOK, "not", goal, epoch, ok)
	}
}

// 15.1

func TestExample(t *testing.T) {
	_, _, f := over(t, ones(17, 1))
	r := f.Find(0)
	if r.At(15) != 15 || r.At(16) != 16 || r.At(3) != api.Inf {
		t.Error(r.At(15), r.At(16), r.At(3))
	}
}

func TestNothingIsKeptAtFirst(t *testing.T) {
	eachMap(func(m api.Map, _ *row) {
		g, b, f := over(t, m)
		keeps(t, f, 0, 0, 0, false)
		if b.Count() != 0 || g.Epoch() != 1 {
			t.Error("New did something", b.Count(), g.Epoch())
		}
	})
}

func TestNoFinderOfNil(t *testing.T) {
	g, b, _ := over(t, ones(1, 1))
	if route.New(nil, g) != nil || route.New(b, nil) != nil || route.New(nil, nil) != nil {
		t.Error("a finder of nil")
	}
}

func TestNoRouteToNoCell(t *testing.T) {
	for _, size := range sizes() {
		m := ones(size[0], size[1])
		_, b, f := over(t, m)
		for _, goal := range append(odd(), len(m.C), len(m.C)+1) {
			if f.Find(goal) != nil || b.Count() != 0 || len(b.Dirty()) == 0 {
				t.Error("a route to", goal, b.Count())
			}
			keeps(t, f, 0, 0, 0, false)
		}
	}
}

func TestNoCellLeavesWhatIsKept(t *testing.T) {
	g, b, f := over(t, ones(33, 1))
	f.Find(20)
	g.Edit(3, 2)
	for _, goal := range append(odd(), 33) {
		if f.Find(goal) != nil || !slices.Equal(b.Dirty(), []int{0}) {
			t.Error("something was done for", goal)
		}
		keeps(t, f, 1, 20, 1, true)
	}
}

func TestAKeptRouteIsTold(t *testing.T) {
	_, b, f := over(t, ones(33, 2))
	for i, goal := range []int{0, 65, 32, 0, 16} {
		for range 3 {
			if r := f.Find(goal); r.Goal() != goal || r.Epoch() != 1 {
				t.Error(r.Goal(), r.Epoch(), "not", goal)
			}
			keeps(t, f, uint64(i+1), goal, 1, true)
		}
	}
	if b.Count() != 3 {
		t.Error("rebuilt", b.Count())
	}
}

func TestEachEditAsksForANewRoute(t *testing.T) {
	g, b, f := over(t, ones(48, 3))
	f.Find(0)
	// Whatever the cost was, and wherever the cell is.
	for i, cell := range []int{143, 143, 20, 0, 15, 16} {
		g.Edit(cell, 1)
		keeps(t, f, uint64(i+1), 0, int64(i+1), true)
		if r := f.Find(0); r.Epoch() != int64(i+2) {
			t.Error("Epoch", r.Epoch())
		}
		f.Find(0)
		keeps(t, f, uint64(i+2), 0, int64(i+2), true)
		if b.Count() != uint64(i+4) {
			t.Error("rebuilt", b.Count())
		}
	}
	g.Edit(144, 1)
	g.Edit(0, 0)
	f.Find(0)
	keeps(t, f, 7, 0, 7, true)
}

func TestTheMeshIsRebuilt(t *testing.T) {
	g, b, f := over(t, ones(48, 48))
	for i := range 10 {
		f.Find(i)
		if len(b.Dirty()) != 0 {
			t.Fatal("Dirty", b.Dirty())
		}
		g.Edit(i*200, 7)
		g.Edit(i*200, 9)
		if len(b.Dirty()) != 1 || b.Count() != uint64(9+i) {
			t.Fatal("Dirty", b.Dirty(), b.Count())
		}
	}
}

func TestDrop(t *testing.T) {
	_, b, f := over(t, ones(33, 1))
	f.Drop()
	keeps(t, f, 0, 0, 0, false)
	r := f.Find(7)
	for i := range 3 {
		f.Drop()
		f.Drop()
		keeps(t, f, uint64(i+1), 0, 0, false)
		holds(t, ones(33, 1), f.Find(7), 7, 1, told(ones(33, 1), r))
		keeps(t, f, uint64(i+2), 7, 1, true)
	}
	if b.Count() != 3 {
		t.Error("rebuilt", b.Count())
	}
}

func TestEachEpochIsAStart(t *testing.T) {
	for _, epoch := range []int64{0, 1, 1 << 31, 1 << 32, 1<<62 - 1, 1 << 62} {
		m := ones(17, 1)
		g := grid.New(m, epoch)
		f := route.New(mesh.New(g), g)
		holds(t, m, f.Find(0), 0, epoch+1, expected(m, 0))
		keeps(t, f, 1, 0, epoch+1, true)
		g.Edit(9, 1)
		f.Find(0)
		keeps(t, f, 2, 0, epoch+2, true)
	}
}

func TestAFinderOfItsOwn(t *testing.T) {
	m := ones(33, 1)
	g, b, f := over(t, m)
	other := route.New(b, g)
	f.Find(3)
	other.Find(20)
	other.Find(21)
	keeps(t, f, 1, 3, 1, true)
	keeps(t, other, 2, 21, 1, true)
	f.Drop()
	keeps(t, other, 2, 21, 1, true)
	if b.Count() != 3 {
		t.Error("rebuilt", b.Count())
	}
}

// 15.2

func TestAllThatIsToldOfAMap(t *testing.T) {
	eachMap(func(m api.Map, numbers *row) {
		_, _, f := over(t, m)
		for range 6 {
			goal := numbers.below(len(m.C))
			holds(t, m, f.Find(goal), goal, 1, expected(m, goal))
		}
	})
}

func TestEachCellIsAGoal(t *testing.T) {
	numbers := &row{2}
	for _, size := range [][2]int{{17, 17}, {18, 5}, {33, 3}, {1, 34}} {
		for kind := range 4 {
			m := numbers.of(size[0], size[1], kind)
			_, _, f := over(t, m)
			for goal := range m.C {
				holds(t, m, f.Find(goal), goal, 1, expected(m, goal))
			}
		}
	}
}

func TestTheGoalIsToldOnlyWhereItIsANode(t *testing.T) {
	m := ones(33, 18)
	_, _, f := over(t, m)
	for goal := range m.C {
		want := api.Inf
		if isNode(m, goal) {
			want = 0
		}
		if got := f.Find(goal).At(goal); got != want {
			t.Error("At the goal", goal, got, "not", want)
		}
	}
}

func TestNoNodeWhereThereIsOneSector(t *testing.T) {
	m := ones(16, 16)
	_, _, f := over(t, m)
	for goal := range m.C {
		holds(t, m, f.Find(goal), goal, 1, slices.Repeat([]int{api.Inf}, 256))
	}
	keeps(t, f, 256, 255, 1, true)
}

func TestAWallIsReachedFromNowhere(t *testing.T) {
	// At a border, at two of them, and inside.
	for _, goal := range []int{15, 16, 33*15 + 15, 33*16 + 16, 3, 33*3 + 20} {
		m := ones(33, 33, goal)
		_, _, f := over(t, m)
		r := f.Find(goal)
		holds(t, m, r, goal, 1, slices.Repeat([]int{api.Inf}, len(m.C)))
		f.Find(goal)
		keeps(t, f, 1, goal, 1, true)
	}
}

func TestAGoalWithinWallsIsReachedFromNowhere(t *testing.T) {
	m := drawn(
		"....................",
		".###................",
		".#.#................",
		".###................",
	)
	_, _, f := over(t, m)
	holds(t, m, f.Find(42), 42, 1, slices.Repeat([]int{api.Inf}, len(m.C)))
}

func TestWhatIsEnteredIsPaid(t *testing.T) {
	m := ones(17, 1)
	m.C[15], m.C[16], m.C[9] = 100, 30, 7
	_, _, f := over(t, m)
	for _, c := range []struct{ goal, west, east int }{{16, 30, 0}, {15, 0, 100}, {14, 1, 101}, {9, 12, 112}, {8, 13, 113}} {
		if r := f.Find(c.goal); r.At(15) != c.west || r.At(16) != c.east {
			t.Error("to", c.goal, r.At(15), r.At(16))
		}
	}
}

func TestOverAnyCellsOfTheMap(t *testing.T) {
	// From beside the goal, in its own sector, the only way leads out, and back in by another side.
	m := drawn(
		"..............#...",
		"..............#...",
		"..............#...",
		"##############9...",
		"..................",
	)
	_, _, f := over(t, m)
	r := f.Find(13)
	holds(t, m, r, 13, 1, expected(m, 13))
	if got := f.Find(13).At(15); got != api.Inf {
		t.Error("over a wall", got)
	}
	open := drawn(
		"..............#...",
		"..............#...",
		"..............#...",
		".#############9...",
		"..................",
	)
	_, _, f = over(t, open)
	holds(t, open, f.Find(13), 13, 1, expected(open, 13))
	if got, want := f.Find(13).At(15), 4+15+4+13; got != want {
		t.Error("around the wall", got, "not", want)
	}
	// Between two nodes of the goal's sector it is shorter by another sector than within.
	m = drawn(
		"...............9.",
		"...............9.",
		"...............9.",
	)
	m.C[15] = 1
	m.C[15+2*17] = 1
	m.C[14], m.C[14+17], m.C[14+2*17] = api.Wall, 254, 254
	_, _, f = over(t, m)
	holds(t, m, f.Find(15), 15, 1, expected(m, 15))
	if got := f.Find(15).At(15 + 2*17); got != 4 {
		t.Error("by another sector", got)
	}
}

func TestAGoalInsideIsEnteredByAnySide(t *testing.T) {
	m := ones(48, 48)
	_, _, f := over(t, m)
	goal := 24*48 + 23
	r := f.Find(goal)
	for cell := range m.C {
		want := max(cell%48-23, 23-cell%48) + max(cell/48-24, 24-cell/48)
		if isNode(m, cell) && r.At(cell) != want {
			t.Fatal("At", cell, r.At(cell), "not", want)
		}
	}
}

func TestGreatDistances(t *testing.T) {
	// A corridor of the dearest ground to and fro over the map: what it costs takes more than 16 bits, and more than 24.
	const w, h = 1024, 160
	m := ones(w, h)
	for cell := range m.C {
		m.C[cell] = 254
		if row := cell / w; row%2 == 1 && cell%w != (w-1)*(row/2%2^1) {
			m.C[cell] = api.Wall
		}
	}
	_, _, f := over(t, m)
	r := f.Find(0)
	steps := 0
	for row := 0; row < h; row += 2 {
		ends := [2]int{row * w, row*w + w - 1}
		if row/2%2 == 1 {
			ends[0], ends[1] = ends[1], ends[0]
		}
		last := ends[1]
		if got, want := r.At(last), (steps+w-1)*254; isNode(m, last) && got != want {
			t.Fatal("At", last, got, "not", want)
		}
		inner := row*w + 512
		if want := (steps + max(inner-ends[0], ends[0]-inner)) * 254; r.At(inner) != want {
			t.Fatal("At", inner, r.At(inner), "not", want)
		}
		steps += w + 1
	}
}

func TestNil(t *testing.T) {
	var f *route.Finder
	var r *route.Route
	for _, n := range append(odd(), 0, 1, 17) {
		if f.Find(n) != nil || r.At(n) != api.Inf {
			t.Error("nil", n)
		}
	}
	f.Drop()
	keeps(t, f, 0, 0, 0, false)
	if r.Goal() != -1 || r.Epoch() != 0 {
		t.Error("nil", r.Goal(), r.Epoch())
	}
}

func TestZeroValuesDoNotPanic(t *testing.T) {
	empty := &route.Finder{}
	hollow := route.New(&mesh.Mesh{}, &grid.Grid{})
	for _, n := range append(odd(), 0, 1, 17) {
		if empty.Find(n) != nil || hollow.Find(n) != nil {
			t.Error("a route to", n)
		}
	}
	empty.Drop()
	keeps(t, empty, 0, 0, 0, false)
	keeps(t, hollow, 0, 0, 0, false)
	if r := (&route.Route{}); r.At(0) != api.Inf {
		t.Error("a route of nothing", r.At(0))
	}
}

func TestAMeshOfAnotherGridDoesNotPanic(t *testing.T) {
	small, great := grid.New(ones(17, 1), 0), grid.New(ones(50, 50), 0)
	for _, f := range []*route.Finder{
		route.New(mesh.New(small), great), route.New(mesh.New(great), small), route.New(&mesh.Mesh{}, great),
	} {
		for goal := -1; goal <= 2500; goal += 13 {
			for cell := -1; cell <= 2500; cell += 7 {
				f.Find(goal).At(cell)
			}
		}
	}
}

// 15.3, T1

func TestEditsAreTold(t *testing.T) {
	numbers := &row{3}
	for _, size := range [][2]int{{35, 33}, {17, 2}, {48, 20}, {3, 40}} {
		m := numbers.of(size[0], size[1], 1)
		g, _, f := over(t, m)
		goal, count := 0, uint64(0)
		for range 40 {
			if numbers.below(3) == 0 {
				goal = numbers.below(len(m.C))
			}
			for range numbers.below(4) {
				cell, cost := numbers.below(len(m.C)), numbers.cost(3)
				g.Edit(cell, int(cost))
				m.C[cell] = cost
			}
			if kept, epoch, ok := f.Kept(); !ok || kept != goal || epoch != g.Epoch() {
				count++
			}
			holds(t, m, f.Find(goal), goal, g.Epoch(), expected(m, goal))
			keeps(t, f, count, goal, g.Epoch(), true)
		}
	}
}

func TestAnElderRouteStaysRight(t *testing.T) {
	numbers := &row{4}
	m := numbers.of(40, 34, 1)
	g, _, f := over(t, m)
	type elder struct {
		r     *route.Route
		m     api.Map
		goal  int
		epoch int64
	}
	var elders []elder
	for range 12 {
		goal := numbers.below(len(m.C))
		elders = append(elders, elder{f.Find(goal), g.Map(), goal, g.Epoch()})
		for range 1 + numbers.below(30) {
			g.Edit(numbers.below(len(m.C)), int(numbers.cost(3)))
		}
	}
	f.Drop()
	for _, e := range elders {
		holds(t, e.m, e.r, e.goal, e.epoch, expected(e.m, e.goal))
	}
}

func TestBorderCellsTellTheTrueDistance(t *testing.T) {
	eachMap(func(m api.Map, numbers *row) {
		g, b, f := over(t, m)
		goal := numbers.below(len(m.C))
		r, far := f.Find(goal), byRounds(m, goal)
		for s := range len(m.C) {
			for _, cell := range border.Nodes(g, s) {
				if r.At(cell) != far[cell] {
					t.Fatal(m.W, m.H, "At", cell, r.At(cell), "not", far[cell])
				}
			}
			if !slices.Equal(border.Nodes(g, s), b.Nodes(s)) {
				t.Fatal("the mesh is not as the grid is")
			}
		}
	})
}

// leastOf is the least that a way from a cell to the goal costs that goes over no cell twice, of all such ways.
func leastOf(m api.Map, cell, goal int, gone map[int]bool) int {
	if cell == goal {
		return 0
	}
	gone[cell] = true
	defer delete(gone, cell)
	least := api.Inf
	for _, n := range beside(m, cell) {
		if n >= 0 && m.C[n] != api.Wall && !gone[n] {
			least = min(least, int(m.C[n])+leastOf(m, n, goal, gone))
		}
	}
	return least
}

func TestTheLeastOfAllWays(t *testing.T) {
	// Of a map that is walls but for a few cells around a corner of four sectors.
	numbers := &row{5}
	for range 60 {
		m := ones(18, 18)
		var open []int
		for cell := range m.C {
			x, y := cell%18-14, cell/18-14
			if m.C[cell] = api.Wall; x >= 0 && y >= 0 && numbers.below(5) > 0 {
				m.C[cell] = byte(1 + numbers.below(20))
				open = append(open, cell)
			}
		}
		_, _, f := over(t, m)
		goal := open[numbers.below(len(open))]
		r := f.Find(goal)
		for _, cell := range open {
			if want := min(leastOf(m, cell, goal, map[int]bool{}), api.Inf); isNode(m, cell) && r.At(cell) != want {
				t.Fatal("from", cell, "to", goal, r.At(cell), "not", want)
			}
		}
	}
}

// Rules 2, 3

func TestTheSameTwice(t *testing.T) {
	numbers := &row{6}
	m := numbers.of(40, 34, 2)
	_, _, one := over(t, m)
	_, _, two := over(t, m)
	for range 10 {
		goal := numbers.below(len(m.C))
		two.Drop()
		holds(t, m, one.Find(goal), goal, 1, told(m, two.Find(goal)))
	}
}

func TestAskingChangesNothing(t *testing.T) {
	numbers := &row{7}
	m := numbers.of(40, 34, 1)
	g, b, f := over(t, m)
	f.Find(5)
	for cell := -1; cell <= len(m.C); cell++ {
		f.Find(5).At(cell)
		f.Kept()
	}
	keeps(t, f, 1, 5, 1, true)
	if b.Count() != 9 || g.Epoch() != 1 || !bytes.Equal(g.Map().C, m.C) {
		t.Error("changed:", b.Count(), g.Epoch())
	}
}
