package border_test

import (
	"bytes"
	"fmt"
	"math"
	"slices"
	"testing"

	"herdsman/api"
	"herdsman/border"
	"herdsman/grid"
)

// odd numbers: what a program may hand over by mistake. None is a cell, a sector or a side.
var odd = []int{
	math.MinInt, math.MinInt + 1, -1 << 40, -1 << 32, -256, -17, -2, -1,
	math.MaxInt, math.MaxInt - 1, 1 << 62, api.Inf, 1<<32 + 1, 1 << 32, 1 << 31, 1 << 20,
}

// sizes of maps: of one sector, of sectors that are whole, or short, or one cell wide, in rows, columns and squares.
var sizes = [][2]int{
	{1, 1}, {16, 16}, {15, 16}, {17, 1}, {1, 17}, {2, 17}, {17, 2}, {16, 17}, {17, 16}, {17, 17}, {18, 17}, {20, 20},
	{31, 33}, {32, 32}, {33, 1}, {1, 33}, {33, 18}, {48, 48}, {49, 50}, {100, 3}, {3, 100},
}

// row of numbers, always the same one.
type row struct{ last uint64 }

func (r *row) below(n int) int {
	r.last = r.last*6364136223846793005 + 1442695040888963407
	return int(r.last >> 33 % uint64(n))
}

// cost is one of a kind: open ground, ground of few walls, ground of all costs, a maze.
func (r *row) cost(kind int) byte {
	switch kind {
	case 0:
		return 1
	case 1:
		return []byte{1, 1, 2, 3, 254, api.Wall}[r.below(6)]
	case 2:
		return byte(1 + r.below(255))
	}
	return []byte{1, 254, api.Wall, api.Wall}[r.below(4)]
}

// plan is a map, and what there is to be told of it, reckoned by columns and rows alone.
type plan struct {
	w, h  int
	costs []byte
}

// plan of that size, with costs of that kind.
func (r *row) plan(w, h, kind int) plan {
	p := plan{w, h, make([]byte, w*h)}
	for cell := range p.costs {
		p.costs[cell] = r.cost(kind)
	}
	return p
}

// ones is a plan of ones, but for walls.
func ones(w, h int, walls ...int) plan {
	p := plan{w, h, bytes.Repeat([]byte{1}, w*h)}
	for _, cell := range walls {
		p.costs[cell] = api.Wall
	}
	return p
}

// grid of the plan.
func (p plan) grid(t *testing.T) *grid.Grid {
	t.Helper()
	g := grid.New(api.Map{W: p.w, H: p.h, C: p.costs}, 0)
	if g == nil {
		t.Fatal("no grid", p.w, p.h)
	}
	return g
}

func (p plan) across() int { return (p.w + 15) / 16 }

func (p plan) sectors() int { return p.across() * ((p.h + 15) / 16) }

func (p plan) sector(cell int) int { return cell/p.w/16*p.across() + cell%p.w/16 }

// beside is the cell at a side of a cell; -1 if the map ends there.
func (p plan) beside(cell, side int) int {
	column := cell%p.w + [4]int{0, 1, 0, -1}[side]
	line := cell/p.w + [4]int{-1, 0, 1, 0}[side]
	if column < 0 || column >= p.w || line < 0 || line >= p.h {
		return -1
	}
	return line*p.w + column
}

// over is the cell of another sector at a side of a cell; -1 if there is none.
func (p plan) over(cell, side int) int {
	if n := p.beside(cell, side); n >= 0 && p.sector(n) != p.sector(cell) {
		return n
	}
	return -1
}

func (p plan) open(cell int) bool { return p.costs[cell] != api.Wall }

// cells of a sector with a cell of another one beside them.
func (p plan) cells(sector int) []int {
	var l []int
	for cell := range p.costs {
		if p.sector(cell) == sector && max(p.over(cell, 0), p.over(cell, 1), p.over(cell, 2), p.over(cell, 3)) >= 0 {
			l = append(l, cell)
		}
	}
	return l
}

func (p plan) nodes(sector int) []int {
	return slices.DeleteFunc(p.cells(sector), func(cell int) bool { return !p.open(cell) })
}

// places are the open ones along a side, each for itself.
func (p plan) places(sector, side int) []int {
	var l []int
	for _, cell := range p.cells(sector) {
		if n := p.over(cell, side); n >= 0 && p.open(cell) && p.open(n) {
			if side == api.North || side == api.South {
				l = append(l, cell%p.w%16)
			} else {
				l = append(l, cell/p.w%16)
			}
		}
	}
	slices.Sort(l)
	return l
}

// runs of the open places along a side.
func (p plan) runs(sector, side int) []api.Run {
	l := p.places(sector, side)
	var runs []api.Run
	for i, place := range l {
		if i == 0 || l[i-1] != place-1 {
			runs = append(runs, api.Run{From: place})
		}
		runs[len(runs)-1].Len++
	}
	return runs
}

func (p plan) cross(cell int) []api.Edge {
	var l []api.Edge
	for side := range 4 {
		if n := p.over(cell, side); n >= 0 && p.open(cell) && p.open(n) {
			l = append(l, api.Edge{To: n, Cost: int(p.costs[n])})
		}
	}
	return l
}

// agree holds all that is told of a grid against what must be.
func (p plan) agree(t *testing.T, g *grid.Grid) {
	t.Helper()
	for sector := range p.sectors() {
		same(t, fmt.Sprint(p.w, p.h, " Cells ", sector), border.Cells(p.w, p.h, sector), p.cells(sector))
		same(t, fmt.Sprint(p.w, p.h, " Nodes ", sector), border.Nodes(g, sector), p.nodes(sector))
		for side := range 4 {
			same(t, fmt.Sprint(p.w, p.h, " Runs ", sector, side), border.Runs(g, sector, side), p.runs(sector, side))
		}
	}
	for cell := range p.costs {
		same(t, fmt.Sprint(p.w, p.h, " Cross ", cell), border.Cross(g, cell), p.cross(cell))
	}
}

func same[E comparable](t *testing.T, what string, got, want []E) {
	t.Helper()
	if !slices.Equal(got, want) {
		t.Fatalf("%s: %v; not %v", what, got, want)
	}
}

// eachPlan calls do with plans of all sizes and kinds.
func eachPlan(do func(p plan)) {
	numbers := row{1}
	for _, size := range sizes {
		for kind := range 4 {
			do(numbers.plan(size[0], size[1], kind))
		}
	}
}

// 11.1

func TestExample(t *testing.T) {
	g := ones(17, 1).grid(t)
	same(t, "Nodes", border.Nodes(g, 0), []int{15})
	same(t, "Cross", border.Cross(g, 15), []api.Edge{{To: 16, Cost: 1}})
	same(t, "Runs", border.Runs(g, 0, api.East), []api.Run{{From: 0, Len: 1}})
}

func TestAllThatIsToldOfAMap(t *testing.T) {
	eachPlan(func(p plan) { p.agree(t, p.grid(t)) })
}

func TestCellsOfEachSize(t *testing.T) {
	for w := 1; w <= 35; w++ {
		for h := 1; h <= 35; h++ {
			p := ones(w, h)
			for sector := range p.sectors() {
				same(t, fmt.Sprint(w, h, " Cells ", sector), border.Cells(w, h, sector), p.cells(sector))
			}
			same(t, "Cells past the end", border.Cells(w, h, p.sectors()), nil)
		}
	}
}

func TestCellsOfTheGreatestMap(t *testing.T) {
	const last = 64*64 - 1
	for sector, many := range map[int]int{0: 31, 63: 31, 1: 46, 64: 46, last: 31, last - 1: 46, 65: 60, last - 65: 60} {
		if l := border.Cells(1024, 1024, sector); len(l) != many || !slices.IsSorted(l) {
			t.Error(sector, l)
		}
	}
	l := border.Cells(1024, 1024, last)
	if l[0] != 1008*1024+1008 || l[15] != 1008*1024+1023 || l[16] != 1009*1024+1008 || l[30] != 1023*1024+1008 {
		t.Error(l)
	}
	if l = border.Cells(1024, 1, 63); !slices.Equal(l, []int{1008}) {
		t.Error(l)
	}
	if l = border.Cells(1, 1024, 62); !slices.Equal(l, []int{992, 1007}) {
		t.Error(l)
	}
	if l = border.Cells(1009, 1009, last); !slices.Equal(l, []int{1009*1009 - 1}) {
		t.Error(l)
	}
}

func TestACornerIsToldOnce(t *testing.T) {
	p := ones(48, 48)
	l := border.Nodes(p.grid(t), 4)
	want := []int{}
	for cell := range p.costs {
		column, line := cell%48, cell/48
		if column >= 16 && column < 32 && line >= 16 && line < 32 && (column == 16 || column == 31 || line == 16 || line == 31) {
			want = append(want, cell)
		}
	}
	same(t, "Nodes of the middle", l, want)
}

func TestCellsAreWallsOrNot(t *testing.T) {
	p := ones(17, 1, 15)
	same(t, "Cells", border.Cells(17, 1, 0), []int{15})
	same(t, "Nodes", border.Nodes(p.grid(t), 0), nil)
	// A node need not have a way out: there is a cell of another sector beside it.
	same(t, "Nodes beside a wall", border.Nodes(p.grid(t), 1), []int{16})
	same(t, "Cross beside a wall", border.Cross(p.grid(t), 16), nil)
	same(t, "Cross of a wall", border.Cross(p.grid(t), 15), nil)
}

func TestCellsOfNoSector(t *testing.T) {
	for _, n := range append([]int{2, 3}, odd...) {
		same(t, fmt.Sprint("Cells of sector ", n), border.Cells(17, 1, n), nil)
	}
	for _, n := range append([]int{0, 1025}, odd...) {
		for sector := -1; sector < 3; sector++ {
			same(t, fmt.Sprint("Cells across ", n), border.Cells(n, 20, sector), nil)
			same(t, fmt.Sprint("Cells down ", n), border.Cells(20, n, sector), nil)
			same(t, fmt.Sprint("Cells both ", n), border.Cells(n, n, sector), nil)
		}
	}
}

func TestNodesOfNoSector(t *testing.T) {
	for _, size := range sizes {
		p := ones(size[0], size[1])
		g := p.grid(t)
		for _, n := range append([]int{p.sectors(), p.sectors() + 1}, odd...) {
			same(t, fmt.Sprint("Nodes ", n), border.Nodes(g, n), nil)
		}
	}
}

// 11.2

func TestRunsBetweenWallsOfBothSides(t *testing.T) {
	// Walls at places 0 and 9 of sector 0, at places 5, 9 and 15 of sector 1; one behind the border is not asked.
	p := ones(32, 16, 15, 9*32+15, 5*32+16, 9*32+16, 15*32+16, 2*32+14, 3*32+17)
	g := p.grid(t)
	want := []api.Run{{From: 1, Len: 4}, {From: 6, Len: 3}, {From: 10, Len: 5}}
	same(t, "East", border.Runs(g, 0, api.East), want)
	same(t, "West", border.Runs(g, 1, api.West), want)
	p = ones(16, 32, 15*16, 15*16+9, 16*16+5, 16*16+9, 16*16+15, 14*16+2, 17*16+3)
	g = p.grid(t)
	same(t, "South", border.Runs(g, 0, api.South), want)
	same(t, "North", border.Runs(g, 1, api.North), want)
}

func TestRunsAreOfTheSidesOwnLength(t *testing.T) {
	g := ones(20, 19).grid(t)
	for _, x := range []struct{ sector, side, length int }{
		{0, api.East, 16}, {0, api.South, 16}, {1, api.West, 16}, {1, api.South, 4},
		{2, api.North, 16}, {2, api.East, 3}, {3, api.North, 4}, {3, api.West, 3},
	} {
		same(t, fmt.Sprint(x), border.Runs(g, x.sector, x.side), []api.Run{{From: 0, Len: x.length}})
	}
	for _, x := range [][2]int{{0, api.North}, {0, api.West}, {1, api.North}, {1, api.East}, {2, api.South}, {2, api.West}, {3, api.East}, {3, api.South}} {
		same(t, fmt.Sprint(x), border.Runs(g, x[0], x[1]), nil)
	}
}

// Each pattern of walls at six places of a border, on both sides of it.
func TestRunsOfEachPattern(t *testing.T) {
	for pattern := range 1 << 12 {
		p, q := ones(17, 6), ones(6, 17)
		for place := range 6 {
			if pattern>>place&1 == 1 {
				p.costs[place*17+15], q.costs[15*6+place] = api.Wall, api.Wall
			}
			if pattern>>(place+6)&1 == 1 {
				p.costs[place*17+16], q.costs[16*6+place] = api.Wall, api.Wall
			}
		}
		shut := pattern | pattern>>6
		var want []api.Run
		for from := 0; from < 6; from++ {
			length := 0
			for from+length < 6 && shut>>(from+length)&1 == 0 {
				length++
			}
			if length > 0 {
				want = append(want, api.Run{From: from, Len: length})
				from += length
			}
		}
		g := p.grid(t)
		same(t, fmt.Sprintf("%b East", pattern), border.Runs(g, 0, api.East), want)
		same(t, fmt.Sprintf("%b West", pattern), border.Runs(g, 1, api.West), want)
		g = q.grid(t)
		same(t, fmt.Sprintf("%b South", pattern), border.Runs(g, 0, api.South), want)
		same(t, fmt.Sprintf("%b North", pattern), border.Runs(g, 1, api.North), want)
	}
}

func TestRunsOfNone(t *testing.T) {
	for _, size := range sizes {
		p := ones(size[0], size[1])
		g := p.grid(t)
		for _, n := range append([]int{p.sectors(), p.sectors() + 1}, odd...) {
			for side := -1; side < 7; side++ {
				same(t, fmt.Sprint("Runs of sector ", n), border.Runs(g, n, side), nil)
			}
		}
		for _, side := range append([]int{api.Here, api.None, 6, 7, 8}, odd...) {
			for sector := range p.sectors() {
				same(t, fmt.Sprint("Runs of side ", side), border.Runs(g, sector, side), nil)
			}
		}
	}
}

func TestCrossGoesByNorthEastSouthWest(t *testing.T) {
	p := plan{33, 33, make([]byte, 33*33)}
	for cell := range p.costs {
		p.costs[cell] = byte(1 + cell%250)
	}
	for cell, want := range map[int][]int{
		15*33 + 15: {15*33 + 16, 16*33 + 15}, 15*33 + 16: {16*33 + 16, 15*33 + 15},
		16*33 + 15: {15*33 + 15, 16*33 + 16}, 16*33 + 16: {15*33 + 16, 16*33 + 15},
		16*33 + 31: {15*33 + 31, 16*33 + 32}, 15*33 + 32: {16*33 + 32, 15*33 + 31},
		16*33 + 32: {15*33 + 32, 16*33 + 31}, 32*33 + 20: {31*33 + 20}, 32*33 + 32: {31*33 + 32, 32*33 + 31},
		20*33 + 20: nil, 0: nil,
	} {
		var edges []api.Edge
		for _, to := range want {
			edges = append(edges, api.Edge{To: to, Cost: 1 + to%250})
		}
		same(t, fmt.Sprint("Cross ", cell), border.Cross(p.grid(t), cell), edges)
	}
}

func TestCrossTellsWhatIsEnteredCosts(t *testing.T) {
	for _, cost := range []byte{1, 2, 127, 128, 253, 254} {
		p := plan{17, 1, bytes.Repeat([]byte{7}, 17)}
		p.costs[16] = cost
		same(t, "there", border.Cross(p.grid(t), 15), []api.Edge{{To: 16, Cost: int(cost)}})
		same(t, "back", border.Cross(p.grid(t), 16), []api.Edge{{To: 15, Cost: 7}})
	}
}

func TestCrossOfNoCell(t *testing.T) {
	for _, size := range sizes {
		g := ones(size[0], size[1]).grid(t)
		for _, n := range append([]int{size[0] * size[1], size[0]*size[1] + 1}, odd...) {
			same(t, fmt.Sprint("Cross ", n), border.Cross(g, n), nil)
		}
	}
}

func TestCrossGoesNeitherOverTheMapsEndNorByACorner(t *testing.T) {
	// Cell 17 begins a row that cell 16 ends the one ahead of.
	g := ones(17, 2).grid(t)
	same(t, "end of a row", border.Cross(g, 16), []api.Edge{{To: 15, Cost: 1}})
	same(t, "beginning of a row", border.Cross(g, 17), nil)
	g = ones(17, 17, 15*17+16, 16*17+15).grid(t)
	same(t, "from the south-east", border.Cross(g, 288), nil)
	same(t, "from the north-west", border.Cross(g, 15*17+15), nil)
}

func TestNoGrid(t *testing.T) {
	for _, g := range []*grid.Grid{nil, {}, grid.New(api.Map{}, 0), grid.New(api.Map{W: 1, H: 1, C: []byte{0}}, 0)} {
		for _, n := range append([]int{0, 1, 2, 3, 4, 5}, odd...) {
			same(t, "Nodes", border.Nodes(g, n), nil)
			same(t, "Cross", border.Cross(g, n), nil)
			for _, side := range append([]int{0, 1, 2, 3, 4, 5}, odd...) {
				same(t, "Runs", border.Runs(g, n, side), nil)
			}
		}
	}
}

func TestEditsAreTold(t *testing.T) {
	numbers := row{2}
	p := numbers.plan(35, 33, 1)
	g := p.grid(t)
	for range 150 {
		// Most edits at borders: they are what is to be told.
		cell := numbers.below(len(p.costs))
		if l := p.cells(numbers.below(p.sectors())); numbers.below(4) > 0 {
			cell = l[numbers.below(len(l))]
		}
		p.costs[cell] = numbers.cost(3)
		if g.Edit(cell, int(p.costs[cell])) != api.OK {
			t.Fatal("no edit", cell)
		}
		p.agree(t, g)
	}
}

// 11.3

func TestWhoCrossesCanBeCrossedTo(t *testing.T) {
	eachPlan(func(p plan) {
		g := p.grid(t)
		for cell := range p.costs {
			for _, e := range border.Cross(g, cell) {
				if !slices.Contains(border.Cross(g, e.To), api.Edge{To: cell, Cost: g.Cost(cell)}) {
					t.Fatal(p.w, p.h, cell, "has", e, "that does not lead back")
				}
			}
		}
	})
}

// cellAt is the cell of a place along a side.
func (p plan) cellAt(sector, side, place int) int {
	column, line := sector%p.across()*16, sector/p.across()*16
	switch side {
	case api.North:
		column += place
	case api.South:
		column, line = column+place, min(line+15, p.h-1)
	case api.West:
		line += place
	case api.East:
		column, line = min(column+15, p.w-1), line+place
	}
	return line*p.w + column
}

func TestPlacesOfRunsAreTheCrosses(t *testing.T) {
	eachPlan(func(p plan) {
		g := p.grid(t)
		for sector := range p.sectors() {
			var byRuns, byNodes [][2]int
			for side := range 4 {
				for _, r := range border.Runs(g, sector, side) {
					for place := r.From; place < r.From+r.Len; place++ {
						cell := p.cellAt(sector, side, place)
						byRuns = append(byRuns, [2]int{cell, p.beside(cell, side)})
					}
				}
			}
			for _, cell := range border.Nodes(g, sector) {
				for _, e := range border.Cross(g, cell) {
					byNodes = append(byNodes, [2]int{cell, e.To})
				}
			}
			rising := func(a, b [2]int) int { return slices.Compare(a[:], b[:]) }
			slices.SortFunc(byRuns, rising)
			slices.SortFunc(byNodes, rising)
			same(t, fmt.Sprint(p.w, p.h, " sector ", sector), byRuns, byNodes)
		}
	})
}

func TestCrossesAreOfNodesAlone(t *testing.T) {
	eachPlan(func(p plan) {
		g := p.grid(t)
		nodes := map[int]bool{}
		for sector := range p.sectors() {
			for _, cell := range border.Nodes(g, sector) {
				nodes[cell] = true
			}
		}
		for cell := range p.costs {
			for _, e := range border.Cross(g, cell) {
				if !nodes[cell] || !nodes[e.To] {
					t.Fatal(p.w, p.h, cell, e)
				}
			}
		}
	})
}

// T1

// far is how far the goal is from each cell, by going over all cells till nothing lessens; by steps that may be gone.
func (p plan) far(goal int, steps func(cell int) []api.Edge) []int {
	l := slices.Repeat([]int{api.Inf}, len(p.costs))
	if p.open(goal) {
		l[goal] = 0
	}
	for changed := true; changed; {
		changed = false
		for cell := range l {
			for _, e := range steps(cell) {
				if l[e.To]+e.Cost < l[cell] {
					l[cell], changed = l[e.To]+e.Cost, true
				}
			}
		}
	}
	return l
}

// steps from a cell to open cells beside it, that may be gone if may tells so.
func (p plan) steps(cell int, may func(to int) bool) []api.Edge {
	var l []api.Edge
	for side := range 4 {
		if n := p.beside(cell, side); n >= 0 && p.open(cell) && p.open(n) && may(n) {
			l = append(l, api.Edge{To: n, Cost: int(p.costs[n])})
		}
	}
	return l
}

func TestStepsWithinSectorsAndCrossesTellAllDistances(t *testing.T) {
	numbers := row{3}
	for _, size := range [][2]int{{1, 1}, {16, 16}, {17, 1}, {1, 17}, {20, 18}, {33, 17}, {40, 3}, {35, 34}} {
		for kind := range 4 {
			p := numbers.plan(size[0], size[1], kind)
			g := p.grid(t)
			goal := numbers.below(len(p.costs))
			got := p.far(goal, func(cell int) []api.Edge {
				within := p.steps(cell, func(to int) bool { return p.sector(to) == p.sector(cell) })
				return append(within, border.Cross(g, cell)...)
			})
			want := p.far(goal, func(cell int) []api.Edge {
				return p.steps(cell, func(int) bool { return true })
			})
			same(t, fmt.Sprint(p.w, p.h, " goal ", goal), got, want)
		}
	}
}

// Rules 2, 3

func TestTheGridStays(t *testing.T) {
	p := (&row{4}).plan(35, 20, 1)
	g := p.grid(t)
	p.agree(t, g)
	p.agree(t, g)
	w, h := g.Size()
	if m := g.Map(); w != p.w || h != p.h || !bytes.Equal(m.C, p.costs) || g.Epoch() != 1 {
		t.Error("changed:", m, g.Epoch())
	}
	for sector := range p.sectors() {
		if g.Version(sector) != 1 {
			t.Error("edited:", sector)
		}
	}
}

func TestAnswersAreTheCallersOwn(t *testing.T) {
	p := ones(35, 20)
	g := p.grid(t)
	for sector := range p.sectors() {
		clear(border.Cells(35, 20, sector))
		clear(border.Nodes(g, sector))
		for side := range 4 {
			clear(border.Runs(g, sector, side))
		}
	}
	for cell := range p.costs {
		clear(border.Cross(g, cell))
	}
	p.agree(t, g)
}
