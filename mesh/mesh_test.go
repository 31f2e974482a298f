package mesh_test

import (
	"bytes"
	"fmt"
	"math"
	"slices"
	"testing"

	"herdsman/api"
	"herdsman/border"
	"herdsman/grid"
	"herdsman/mesh"
	"herdsman/table"
	"herdsman/where"
)

// odd numbers: what a program may hand over by mistake. None is a cell or a sector.
func odd() []int {
	return []int{
		math.MinInt, math.MinInt + 1, -1 << 40, -1 << 32, -256, -17, -2, -1,
		math.MaxInt, math.MaxInt - 1, 1 << 62, api.Inf, 1<<32 + 1, 1 << 32, 1 << 31, 1 << 20,
	}
}

// sizes of maps: of one sector, of sectors that are whole, or short, or one cell wide, in rows, columns and squares.
func sizes() [][2]int {
	return [][2]int{
		{1, 1}, {16, 16}, {17, 1}, {1, 17}, {2, 17}, {17, 16}, {16, 17}, {17, 17}, {20, 20}, {33, 18}, {31, 33},
		{48, 48}, {50, 3}, {3, 50},
	}
}

// row of numbers, always the same one.
type row struct{ last uint64 }

func (r *row) below(n int) int {
	r.last = r.last*6364136223846793005 + 1442695040888963407
	return int(r.last >> 33 % uint64(n))
}

// cost is one of a kind: open ground, ground of few walls, ground of all costs, a maze.
func (r *row) cost(kind int) byte {
	switch kind {
	case 0:
		return 1
	case 1:
		return []byte{1, 1, 2, 3, 254, api.Wall}[r.below(6)]
	case 2:
		return byte(1 + r.below(255))
	}
	return []byte{1, 254, api.Wall}[r.below(3)]
}

// of is a map of that size, with costs of that kind.
func (r *row) of(w, h, kind int) api.Map {
	m := api.Map{W: w, H: h, C: make([]byte, w*h)}
	for cell := range m.C {
		m.C[cell] = r.cost(kind)
	}
	return m
}

// eachMap calls do with maps of all sizes and kinds.
func eachMap(do func(m api.Map, numbers *row)) {
	numbers := &row{1}
	for _, size := range sizes() {
		for kind := range 4 {
			do(numbers.of(size[0], size[1], kind), numbers)
		}
	}
}

// ones is a map of ones, but for walls.
func ones(w, h int, walls ...int) api.Map {
	m := api.Map{W: w, H: h, C: bytes.Repeat([]byte{1}, w*h)}
	for _, cell := range walls {
		m.C[cell] = api.Wall
	}
	return m
}

// over is a grid of a map, and a mesh over it.
func over(t *testing.T, m api.Map) (*grid.Grid, *mesh.Mesh) {
	t.Helper()
	g := grid.New(m, 0)
	b := mesh.New(g)
	if g == nil || b == nil {
		t.Fatal("no mesh of a map of", m.W, m.H)
	}
	return g, b
}

// rebuilt is the same, rebuilt.
func rebuilt(t *testing.T, m api.Map) (*grid.Grid, *mesh.Mesh) {
	t.Helper()
	g, b := over(t, m)
	if n := b.Rebuild(); n != sectors(m) {
		t.Fatal(n, "sectors were rebuilt; not", sectors(m))
	}
	return g, b
}

func same[E comparable](t *testing.T, what string, got, want []E) {
	t.Helper()
	if !slices.Equal(got, want) {
		t.Fatalf("%s: %v; not %v", what, got, want)
	}
}

func sectors(m api.Map) int { return (m.W + 15) / 16 * ((m.H + 15) / 16) }

func sector(m api.Map, cell int) int { return cell/m.W/16*((m.W+15)/16) + cell%m.W/16 }

// beside are the cells beside a cell to the north, east, south, west; -1 where the map ends.
func beside(m api.Map, cell int) [4]int {
	l := [4]int{cell - m.W, cell + 1, cell + m.W, cell - 1}
	for side, ends := range [4]bool{cell < m.W, (cell+1)%m.W == 0, cell+m.W >= m.W*m.H, cell%m.W == 0} {
		if ends {
			l[side] = -1
		}
	}
	return l
}

// all is a list of the numbers from 0 on.
func all(n int) []int {
	l := make([]int, n)
	for i := range l {
		l[i] = i
	}
	return l
}

// plain is a mesh reckoned cell by cell: the map as it is now, and as each sector was when it was rebuilt last.
type plain struct {
	now, last api.Map
	fresh     []bool // by sector
	ever      []bool
	count     uint64
	known     map[int][]int // what far has reckoned of last
}

func plainOf(m api.Map) *plain {
	return &plain{
		now:   api.Map{W: m.W, H: m.H, C: slices.Clone(m.C)},
		last:  api.Map{W: m.W, H: m.H, C: slices.Clone(m.C)},
		fresh: make([]bool, sectors(m)),
		ever:  make([]bool, sectors(m)),
	}
}

func (p *plain) edit(cell, cost int) {
	p.now.C[cell] = byte(cost)
	p.fresh[sector(p.now, cell)] = false
}

func (p *plain) dirty() []int {
	return slices.DeleteFunc(all(len(p.fresh)), func(s int) bool { return p.fresh[s] })
}

func (p *plain) rebuild() int {
	n := len(p.dirty())
	for cell := range p.now.C {
		if !p.fresh[sector(p.now, cell)] {
			p.last.C[cell] = p.now.C[cell]
		}
	}
	for s := range p.fresh {
		p.fresh[s], p.ever[s] = true, true
	}
	p.count += uint64(n)
	p.known = map[int][]int{}
	return n
}

// isNode tells whether a cell was an open one at its sector's border when that was rebuilt last.
func (p *plain) isNode(cell int) bool {
	if cell < 0 || cell >= len(p.last.C) || p.last.C[cell] == api.Wall || !p.ever[sector(p.last, cell)] {
		return false
	}
	for _, n := range beside(p.last, cell) {
		if n >= 0 && sector(p.last, n) != sector(p.last, cell) {
			return true
		}
	}
	return false
}

func (p *plain) nodes(s int) []int {
	return slices.DeleteFunc(all(len(p.last.C)), func(cell int) bool { return !p.isNode(cell) || sector(p.last, cell) != s })
}

// far is how far the cells of b's sector are from b within it, by going over them till nothing lessens.
func (p *plain) far(b int) []int {
	if l, ok := p.known[b]; ok {
		return l
	}
	m := p.last
	cells := slices.DeleteFunc(all(len(m.C)), func(a int) bool { return sector(m, a) != sector(m, b) || m.C[a] == api.Wall })
	far := slices.Repeat([]int{api.Inf}, len(m.C))
	far[b] = 0
	for changed := true; changed; {
		changed = false
		for _, a := range cells {
			for _, n := range beside(m, a) {
				if n >= 0 && far[n]+int(m.C[n]) < far[a] {
					far[a], changed = far[n]+int(m.C[n]), true
				}
			}
		}
	}
	p.known[b] = far
	return far
}

func (p *plain) dist(a, b int) int {
	if !p.isNode(a) || !p.isNode(b) {
		return api.Inf
	}
	return p.far(b)[a]
}

func (p *plain) into(b int) []api.Edge {
	var edges []api.Edge
	if !p.isNode(b) {
		return nil
	}
	for _, a := range p.nodes(sector(p.last, b)) {
		if d := p.far(b)[a]; a != b && d < api.Inf {
			edges = append(edges, api.Edge{To: a, Cost: d})
		}
	}
	for _, a := range beside(p.last, b) {
		if p.isNode(a) && sector(p.last, a) != sector(p.last, b) {
			edges = append(edges, api.Edge{To: a, Cost: int(p.now.C[b])})
		}
	}
	return edges
}

// agree holds what is told of a mesh against what must be; of Dist, each node from each, and some others.
func (p *plain) agree(t *testing.T, b *mesh.Mesh, numbers *row) {
	t.Helper()
	what := fmt.Sprint(p.now.W, " ", p.now.H, " ")
	same(t, what+"Dirty", b.Dirty(), p.dirty())
	if b.Count() != p.count {
		t.Fatal(what, "Count", b.Count(), "not", p.count)
	}
	for s := range p.fresh {
		nodes := p.nodes(s)
		same(t, fmt.Sprint(what, "Nodes ", s), b.Nodes(s), nodes)
		for _, to := range nodes {
			for _, from := range nodes {
				if got, want := b.Dist(from, to), p.dist(from, to); got != want {
					t.Fatal(what, "Dist", from, to, got, "not", want)
				}
			}
		}
	}
	for cell := range p.now.C {
		same(t, fmt.Sprint(what, "Into ", cell), b.Into(cell), p.into(cell))
		for range 4 {
			from := numbers.below(len(p.now.C)+2) - 1
			if got, want := b.Dist(from, cell), p.dist(from, cell); got != want {
				t.Fatal(what, "Dist", from, cell, got, "not", want)
			}
		}
	}
}

// 14.1

func TestExample(t *testing.T) {
	g, b := over(t, ones(17, 1))
	same(t, "Dirty", b.Dirty(), []int{0, 1})
	if first, again := b.Rebuild(), b.Rebuild(); first != 2 || again != 0 {
		t.Error(first, again)
	}
	g.Edit(3, 1)
	same(t, "Dirty", b.Dirty(), []int{0})
}

func TestExampleOfTheWhole(t *testing.T) {
	g, b := rebuilt(t, ones(40, 40))
	for cell := 0; cell < 40*40; cell += 7 {
		g.Edit(cell, 9)
		same(t, fmt.Sprint("Dirty behind an Edit of ", cell), b.Dirty(), []int{cell/40/16*3 + cell%40/16})
		b.Rebuild()
	}
}

func TestNothingIsBuiltAtFirst(t *testing.T) {
	eachMap(func(m api.Map, numbers *row) {
		_, b := over(t, m)
		p := plainOf(m)
		p.agree(t, b, numbers)
		same(t, "Dirty", b.Dirty(), all(sectors(m)))
	})
}

func TestAllThatIsToldOfAMap(t *testing.T) {
	eachMap(func(m api.Map, numbers *row) {
		_, b := over(t, m)
		p := plainOf(m)
		for range 2 {
			if got, want := b.Rebuild(), p.rebuild(); got != want {
				t.Fatal("Rebuild", got, "not", want)
			}
			p.agree(t, b, numbers)
		}
	})
}

func TestEachEpochIsAStart(t *testing.T) {
	for _, epoch := range []int64{0, 1, 1 << 31, 1 << 32, 1<<62 - 1, 1 << 62} {
		g := grid.New(ones(33, 17), epoch)
		b := mesh.New(g)
		if len(b.Dirty()) != 6 || b.Rebuild() != 6 || len(b.Dirty()) != 0 {
			t.Error(epoch, b.Dirty())
		}
		g.Edit(16, 1)
		same(t, "Dirty", b.Dirty(), []int{1})
	}
}

func TestAMeshIsOverTheGridItself(t *testing.T) {
	g, b := over(t, ones(17, 1))
	g.Edit(15, 200)
	g.Edit(16, 100)
	b.Rebuild()
	same(t, "Into", b.Into(15), []api.Edge{{To: 16, Cost: 200}})
	same(t, "Into", b.Into(16), []api.Edge{{To: 15, Cost: 100}})
	if other := mesh.New(g); other.Count() != 0 || len(other.Dirty()) != 2 || len(other.Nodes(0)) != 0 {
		t.Error("a second mesh is built")
	}
	if b.Count() != 2 || len(b.Dirty()) != 0 {
		t.Error("a second mesh is seen of the first one")
	}
}

func TestSectorsAreDirtyByVersionsAlone(t *testing.T) {
	g, b := rebuilt(t, ones(48, 48))
	for _, cell := range []int{47*48 + 47, 20, 21, 0, 20} {
		g.Edit(cell, g.Cost(cell))
	}
	same(t, "Dirty", b.Dirty(), []int{0, 1, 8})
	g.Edit(-1, 1)
	g.Edit(48*48, 1)
	g.Edit(24*48+24, 0)
	g.Edit(24*48+24, 256)
	same(t, "Dirty behind what was refused", b.Dirty(), []int{0, 1, 8})
	if b.Rebuild() != 3 || b.Count() != 12 || b.Rebuild() != 0 || b.Count() != 12 {
		t.Error("Count", b.Count())
	}
}

func TestNoGrid(t *testing.T) {
	if mesh.New(nil) != nil || mesh.New(grid.New(api.Map{}, 0)) != nil {
		t.Error("a mesh over nothing")
	}
	for _, b := range []*mesh.Mesh{nil, {}, mesh.New(&grid.Grid{})} {
		for range 2 {
			if len(b.Dirty()) != 0 || b.Rebuild() != 0 || b.Count() != 0 {
				t.Error("something is built over nothing")
			}
		}
		for _, n := range append(odd(), 0, 1, 15, 16) {
			same(t, "Nodes", b.Nodes(n), nil)
			same(t, "Into", b.Into(n), nil)
			for _, a := range append(odd(), 0, 1, 15, n) {
				if b.Dist(a, n) != api.Inf {
					t.Error("Dist", a, n)
				}
			}
		}
	}
}

// 14.2

func TestNodesAreThoseOfTheBorder(t *testing.T) {
	eachMap(func(m api.Map, _ *row) {
		g, b := rebuilt(t, m)
		for s := range sectors(m) {
			same(t, fmt.Sprint("Nodes ", s), b.Nodes(s), border.Nodes(g, s))
		}
	})
}

func TestDistIsThatOfTheTable(t *testing.T) {
	eachMap(func(m api.Map, _ *row) {
		g, b := rebuilt(t, m)
		for s := range sectors(m) {
			nodes := b.Nodes(s)
			var locals, far []int
			for _, cell := range nodes {
				locals = append(locals, where.Local(m.W, m.H, cell))
				for _, to := range nodes {
					far = append(far, b.Dist(cell, to))
				}
			}
			x, _ := g.Tile(s)
			want, _ := table.Make(x, locals)
			same(t, fmt.Sprint("Dist in ", s), far, want)
		}
	})
}

func TestDistGoesOneWay(t *testing.T) {
	m := ones(33, 1)
	for cell := range m.C {
		m.C[cell] = byte(100 + cell)
	}
	_, b := rebuilt(t, m)
	there, back := 0, 0
	for cell := 16; cell <= 31; cell++ {
		there, back = there+100+cell, back+100+cell
	}
	there, back = there-116, back-131
	if b.Dist(16, 31) != there || b.Dist(31, 16) != back || b.Dist(16, 16) != 0 || b.Dist(31, 31) != 0 {
		t.Error(b.Dist(16, 31), b.Dist(31, 16))
	}
	same(t, "Into 16", b.Into(16), []api.Edge{{To: 31, Cost: back}, {To: 15, Cost: 116}})
	same(t, "Into 31", b.Into(31), []api.Edge{{To: 16, Cost: there}, {To: 32, Cost: 131}})
}

func TestDistIsWithinOneSector(t *testing.T) {
	// A wall parts sector 0; the way around it leads over sector 1.
	m := ones(32, 3, 32, 33, 34, 35, 36, 37, 38, 39, 40, 41, 42, 43, 44, 45, 46, 47)
	_, b := rebuilt(t, m)
	if b.Dist(15, 79) != api.Inf || b.Dist(79, 15) != api.Inf || b.Dist(16, 80) != 2 || b.Dist(15, 16) != api.Inf {
		t.Error(b.Dist(15, 79), b.Dist(79, 15), b.Dist(16, 80), b.Dist(15, 16))
	}
	same(t, "Into 15", b.Into(15), []api.Edge{{To: 16, Cost: 1}})
}

func TestTheLongestWayWithin(t *testing.T) {
	// In sector 1 each second row is a wall but for one end, east and west by turns.
	m := api.Map{W: 32, H: 16, C: bytes.Repeat([]byte{254}, 32*16)}
	for y := 1; y < 16; y += 2 {
		for x := 16; x < 32; x++ {
			m.C[32*y+x] = api.Wall
		}
		m.C[32*y+31-15*(y/2%2)] = 254
	}
	m.C[32*15+16] = api.Wall
	_, b := rebuilt(t, m)
	from, to, longest := 16, 32*14+16, 254*(8*15+7*2)
	if there, back := b.Dist(from, to), b.Dist(to, from); there != longest || back != longest {
		t.Error(there, back, "not", longest)
	}
	if l := b.Into(to); l[0] != (api.Edge{To: from, Cost: longest}) {
		t.Error(l)
	}
}

func TestIntoGoesByNodesThenBySides(t *testing.T) {
	m := ones(48, 48)
	for _, cell := range []int{16*48 + 16, 16*48 + 31, 31*48 + 16, 31*48 + 31} {
		m.C[cell] = byte(2 + cell%7)
	}
	_, b := rebuilt(t, m)
	nodes := b.Nodes(4)
	for corner, outside := range map[int][]int{
		16*48 + 16: {15*48 + 16, 16*48 + 15}, 16*48 + 31: {15*48 + 31, 16*48 + 32},
		31*48 + 16: {32*48 + 16, 31*48 + 15}, 31*48 + 31: {31*48 + 32, 32*48 + 31},
		16*48 + 20: {15*48 + 20}, 20*48 + 16: {20*48 + 15}, 20*48 + 31: {20*48 + 32}, 31*48 + 20: {32*48 + 20},
	} {
		l := b.Into(corner)
		var from []int
		for _, e := range l {
			from = append(from, e.To)
		}
		within := slices.DeleteFunc(slices.Clone(nodes), func(cell int) bool { return cell == corner })
		same(t, fmt.Sprint("Into ", corner), from, append(within, outside...))
		for _, e := range l[len(within):] {
			if e.Cost != int(m.C[corner]) {
				t.Error(corner, e)
			}
		}
	}
}

func TestIntoTellsWhatIsEnteredNow(t *testing.T) {
	g, b := rebuilt(t, ones(33, 1))
	for _, cost := range []int{2, 127, 128, 254, api.Wall, 1} {
		g.Edit(16, cost)
		same(t, "Into 16", b.Into(16), []api.Edge{{To: 31, Cost: 15}, {To: 15, Cost: cost}})
		same(t, "Into 15", b.Into(15), []api.Edge{{To: 16, Cost: 1}})
	}
}

func TestWhatWasRebuiltLastStays(t *testing.T) {
	g, b := rebuilt(t, ones(48, 1, 31))
	g.Edit(31, 5)
	g.Edit(32, api.Wall)
	g.Edit(20, 100)
	same(t, "Nodes 1", b.Nodes(1), []int{16})
	same(t, "Nodes 2", b.Nodes(2), []int{32})
	same(t, "Into 31", b.Into(31), nil)
	same(t, "Into 32", b.Into(32), nil)
	b.Rebuild()
	same(t, "Nodes 1", b.Nodes(1), []int{16, 31})
	same(t, "Nodes 2", b.Nodes(2), nil)
	same(t, "Into 31", b.Into(31), []api.Edge{{To: 16, Cost: 13 + 100 + 5}})
	same(t, "Into 32", b.Into(32), nil)
	g.Edit(32, 7)
	same(t, "Into 31", b.Into(31), []api.Edge{{To: 16, Cost: 118}})
	if b.Dist(32, 32) != api.Inf {
		t.Error("a node of what is not rebuilt")
	}
	b.Rebuild()
	same(t, "Into 31", b.Into(31), []api.Edge{{To: 16, Cost: 118}, {To: 32, Cost: 5}})
	same(t, "Into 32", b.Into(32), []api.Edge{{To: 31, Cost: 7}})
}

func TestIntoNeitherGoesOverTheMapsEndNorByACorner(t *testing.T) {
	// Cell 17 begins a row that cell 16 ends the one ahead of.
	_, b := rebuilt(t, ones(17, 2))
	same(t, "Into 16", b.Into(16), []api.Edge{{To: 33, Cost: 1}, {To: 15, Cost: 1}})
	same(t, "Into 17", b.Into(17), nil)
	_, b = rebuilt(t, ones(17, 17, 15*17+16, 16*17+15))
	same(t, "Into the south-east", b.Into(288), nil)
}

func TestOthersAreNoNodes(t *testing.T) {
	for _, size := range sizes() {
		m := ones(size[0], size[1])
		_, b := rebuilt(t, m)
		for _, n := range append(odd(), len(m.C), len(m.C)+1) {
			same(t, fmt.Sprint("Into ", n), b.Into(n), nil)
			for _, a := range []int{n, 0, 15, 16, len(m.C) - 1} {
				if b.Dist(a, n) != api.Inf || b.Dist(n, a) != api.Inf {
					t.Error("Dist", a, n, b.Dist(a, n), b.Dist(n, a))
				}
			}
		}
		for _, n := range append(odd(), sectors(m), sectors(m)+1) {
			same(t, fmt.Sprint("Nodes ", n), b.Nodes(n), nil)
		}
	}
}

func TestEditsAreTold(t *testing.T) {
	numbers := &row{2}
	for _, size := range [][2]int{{35, 33}, {17, 2}, {48, 20}} {
		m := numbers.of(size[0], size[1], 1)
		g, b := over(t, m)
		p := plainOf(m)
		for range 25 {
			for range numbers.below(4) {
				// Most edits at borders: they make and unmake nodes.
				cell := numbers.below(len(m.C))
				if l := border.Cells(m.W, m.H, numbers.below(sectors(m))); numbers.below(4) > 0 {
					cell = l[numbers.below(len(l))]
				}
				cost := int(numbers.cost(3))
				g.Edit(cell, cost)
				p.edit(cell, cost)
			}
			p.agree(t, b, numbers)
			if got, want := b.Rebuild(), p.rebuild(); got != want {
				t.Fatal("Rebuild", got, "not", want)
			}
			p.agree(t, b, numbers)
		}
	}
}

// 14.3

// byNodes is how far the node b is from each cell that is a node, by what leads Into nodes alone.
func byNodes(b *mesh.Mesh, goal, cells int) []int {
	far := slices.Repeat([]int{api.Inf}, cells)
	far[goal] = 0
	for wait := []int{goal}; len(wait) > 0; wait = wait[1:] {
		to := wait[0]
		for _, e := range b.Into(to) {
			if far[to]+e.Cost < far[e.To] {
				far[e.To] = far[to] + e.Cost
				wait = append(wait, e.To)
			}
		}
	}
	return far
}

// byRounds is how far the goal is from each cell, without sectors, by going over all cells till nothing lessens.
func byRounds(m api.Map, goal int) []int {
	far := slices.Repeat([]int{api.Inf}, len(m.C))
	far[goal] = 0
	for changed := true; changed; {
		changed = false
		for cell, cost := range m.C {
			if cost == api.Wall {
				continue
			}
			for _, n := range beside(m, cell) {
				if n >= 0 && m.C[n] != api.Wall && far[n]+int(m.C[n]) < far[cell] {
					far[cell], changed = far[n]+int(m.C[n]), true
				}
			}
		}
	}
	return far
}

// allWays holds the ways that a rebuilt mesh has to a node against all ways of the map.
func allWays(t *testing.T, m api.Map, b *mesh.Mesh, goal int) {
	t.Helper()
	got, want := byNodes(b, goal, len(m.C)), byRounds(m, goal)
	for s := range sectors(m) {
		for _, cell := range b.Nodes(s) {
			if got[cell] != want[cell] {
				t.Fatal(m.W, m.H, "from", cell, "to", goal, "it is", want[cell], "not", got[cell])
			}
		}
	}
}

func TestARebuiltMeshHasAllWays(t *testing.T) {
	eachMap(func(m api.Map, numbers *row) {
		g, b := rebuilt(t, m)
		for range 3 {
			if nodes := b.Nodes(numbers.below(sectors(m))); len(nodes) > 0 {
				allWays(t, g.Map(), b, nodes[numbers.below(len(nodes))])
			}
			for range 5 {
				g.Edit(numbers.below(len(m.C)), int(numbers.cost(1)))
			}
			b.Rebuild()
		}
	})
}

// T9

func TestEachEditedSectorIsRebuiltOnce(t *testing.T) {
	numbers := &row{3}
	g, b := over(t, ones(100, 70))
	count := 0
	for range 30 {
		edited := map[int]bool{}
		if count == 0 {
			for s := range 7 * 5 {
				edited[s] = true
			}
		}
		for range numbers.below(12) {
			cell := numbers.below(100 * 70)
			g.Edit(cell, 1+numbers.below(255))
			edited[cell/100/16*7+cell%100/16] = true
		}
		if n := b.Rebuild(); n != len(edited) {
			t.Fatal(n, "rebuilt; not", len(edited))
		}
		if count += len(edited); b.Count() != uint64(count) {
			t.Fatal("Count", b.Count(), "not", count)
		}
	}
}

func TestTheGreatestMapIsDirty(t *testing.T) {
	g, b := over(t, api.Map{W: 1024, H: 1024, C: bytes.Repeat([]byte{api.Wall}, 1<<20)})
	same(t, "Dirty", b.Dirty(), all(4096))
	if b.Rebuild() != 4096 || b.Count() != 4096 || len(b.Nodes(4095)) != 0 {
		t.Error("Count", b.Count())
	}
	g.Edit(1<<20-1, 1)
	g.Edit(1008*1024+1008, 3)
	same(t, "Dirty", b.Dirty(), []int{4095})
	b.Rebuild()
	same(t, "Nodes", b.Nodes(4095), []int{1008*1024 + 1008})
}

// Rules 2, 3

func TestAnswersAreTheCallersOwn(t *testing.T) {
	g, b := rebuilt(t, ones(48, 48))
	g.Edit(0, 2)
	nodes, edges, dirty := b.Nodes(4), b.Into(16*48+16), b.Dirty()
	clear(b.Nodes(4))
	clear(b.Into(16*48 + 16))
	clear(b.Dirty())
	_ = append(b.Nodes(4)[:1], 0, 0, 0)
	same(t, "Nodes", b.Nodes(4), nodes)
	same(t, "Into", b.Into(16*48+16), edges)
	same(t, "Dirty", b.Dirty(), dirty)
	was := slices.Clone(nodes)
	g.Edit(16*48+16, api.Wall)
	b.Rebuild()
	same(t, "what was told ahead", nodes, was)
}

func TestAskingChangesNothing(t *testing.T) {
	numbers := &row{4}
	m := numbers.of(40, 40, 1)
	g, b := rebuilt(t, m)
	g.Edit(17, 9)
	for range 2 {
		for cell := -1; cell <= 40*40; cell++ {
			b.Into(cell)
			b.Dist(cell, cell+1)
			b.Nodes(cell)
		}
		same(t, "Dirty", b.Dirty(), []int{1})
		if b.Count() != 9 || g.Epoch() != 2 || g.Version(0) != 1 || g.Cost(0) != int(m.C[0]) {
			t.Error("changed:", b.Count(), g.Epoch())
		}
	}
}
