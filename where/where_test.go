package where_test

import (
	"math"
	"testing"

	"herdsman/api"
	"herdsman/where"
)

// sizes that may be: least, greatest, whole sectors, last sectors that are smaller.
var sizes = [][2]int{
	{1, 1}, {1, 2}, {2, 1}, {3, 3}, {15, 16}, {16, 15}, {16, 16}, {17, 17}, {20, 3},
	{17, 33}, {33, 17}, {48, 31}, {1, 1024}, {1024, 1}, {1024, 17}, {17, 1024}, {1023, 1},
}

// badSizes may not be.
var badSizes = [][2]int{
	{0, 0}, {0, 1}, {1, 0}, {-1, 1}, {1, -1}, {-1, -1}, {-4, -4}, {1025, 1}, {1, 1025}, {1025, 1025},
	{math.MaxInt, 1}, {1, math.MaxInt}, {math.MinInt, 1}, {1, math.MinInt},
	{math.MaxInt, math.MaxInt}, {math.MinInt, math.MinInt}, {1 << 32, 1 << 32}, {1<<32 + 1, 1},
}

// odd numbers: what a program may hand over by mistake.
var odd = []int{
	math.MinInt, math.MinInt + 1, -1 << 32, -1025, -17, -16, -2, -1,
	math.MaxInt, math.MaxInt - 1, 1 << 62, 1 << 40, 1<<32 + 1, 1 << 32, 1 << 20,
}

// facts are a cell's, found by going over the map sector by sector and counting.
type facts struct{ x, y, sector, local int }

// survey counts cells and sectors one by one, without the reckoning that is tested.
func survey(w, h int) (cells []facts, rooms [][2]int, across, down int) {
	cells = make([]facts, w*h)
	for y, n := 0, 0; y < h; y++ {
		for x := 0; x < w; x++ {
			cells[n].x, cells[n].y = x, y
			n++
		}
	}
	for top := 0; top < h; top += 16 {
		down++
		across = 0
		for left := 0; left < w; left += 16 {
			across++
			local, wide, high := 0, 0, 0
			for y := top; y < top+16 && y < h; y++ {
				high++
				wide = 0
				for x := left; x < left+16 && x < w; x++ {
					wide++
					cells[y*w+x].sector = len(rooms)
					cells[y*w+x].local = local
					local++
				}
			}
			rooms = append(rooms, [2]int{wide, high})
		}
	}
	return cells, rooms, across, down
}

// 1.1

func TestMayTakesSidesFromOneToMaxSide(t *testing.T) {
	around := []int{math.MinInt, -1024, -1, 0, 1, 2, 16, 1023, 1024, 1025, 1026, 1 << 32, 1<<32 + 1, math.MaxInt}
	good := map[int]bool{1: true, 2: true, 16: true, 1023: true, 1024: true}
	for _, w := range around {
		for _, h := range around {
			if got := where.May(w, h); got != (good[w] && good[h]) {
				t.Errorf("May(%d, %d) = %v", w, h, got)
			}
		}
	}
	for _, s := range sizes {
		if !where.May(s[0], s[1]) {
			t.Errorf("May(%d, %d) = false", s[0], s[1])
		}
	}
}

func TestNoCellAndNoSectorWhereSizesMayNotBe(t *testing.T) {
	numbers := append([]int{0, 1, 2, 15, 16, 255, 1023, 1024}, odd...)
	for _, s := range badSizes {
		w, h := s[0], s[1]
		if where.May(w, h) {
			t.Errorf("May(%d, %d) = true", w, h)
		}
		if a, d := where.Sectors(w, h); a != 0 || d != 0 {
			t.Errorf("Sectors(%d, %d) = %d, %d", w, h, a, d)
		}
		for _, n := range numbers {
			noCell(t, w, h, n)
			noSector(t, w, h, n)
			for _, m := range numbers {
				if got := where.Cell(w, h, n, m); got != -1 {
					t.Errorf("Cell(%d, %d, %d, %d) = %d", w, h, n, m, got)
				}
				if got := where.Side(w, h, n, m); got != api.None {
					t.Errorf("Side(%d, %d, %d, %d) = %d", w, h, n, m, got)
				}
				if got := where.Global(w, h, n, m); got != -1 {
					t.Errorf("Global(%d, %d, %d, %d) = %d", w, h, n, m, got)
				}
			}
		}
	}
}

// noCell asks all that can be asked of a number that is no cell.
func noCell(t *testing.T, w, h, cell int) {
	t.Helper()
	if x, y := where.Place(w, h, cell); x != -1 || y != -1 {
		t.Errorf("Place(%d, %d, %d) = %d, %d", w, h, cell, x, y)
	}
	for side := -2; side <= 8; side++ {
		if got := where.Step(w, h, cell, side); got != -1 {
			t.Errorf("Step(%d, %d, %d, %d) = %d", w, h, cell, side, got)
		}
	}
	if got := where.Sector(w, h, cell); got != -1 {
		t.Errorf("Sector(%d, %d, %d) = %d", w, h, cell, got)
	}
	if got := where.Local(w, h, cell); got != -1 {
		t.Errorf("Local(%d, %d, %d) = %d", w, h, cell, got)
	}
	for _, other := range []int{cell, -1, 0, w*h - 1} {
		if got := where.Side(w, h, cell, other); got != api.None {
			t.Errorf("Side(%d, %d, %d, %d) = %d", w, h, cell, other, got)
		}
		if got := where.Side(w, h, other, cell); got != api.None {
			t.Errorf("Side(%d, %d, %d, %d) = %d", w, h, other, cell, got)
		}
	}
}

// noSector asks all that can be asked of a number that is no sector.
func noSector(t *testing.T, w, h, sector int) {
	t.Helper()
	if tw, th := where.Size(w, h, sector); tw != 0 || th != 0 {
		t.Errorf("Size(%d, %d, %d) = %d, %d", w, h, sector, tw, th)
	}
	for _, local := range []int{-1, 0, 1, 255, math.MaxInt, math.MinInt} {
		if got := where.Global(w, h, sector, local); got != -1 {
			t.Errorf("Global(%d, %d, %d, %d) = %d", w, h, sector, local, got)
		}
	}
}

// 1.2

func TestCellsAreNumberedRowByRow(t *testing.T) {
	for _, s := range sizes {
		w, h := s[0], s[1]
		cells, _, _, _ := survey(w, h)
		for c, f := range cells {
			if got := where.Cell(w, h, f.x, f.y); got != c {
				t.Fatalf("Cell(%d, %d, %d, %d) = %d, not %d", w, h, f.x, f.y, got, c)
			}
			if x, y := where.Place(w, h, c); x != f.x || y != f.y {
				t.Fatalf("Place(%d, %d, %d) = %d, %d, not %d, %d", w, h, c, x, y, f.x, f.y)
			}
		}
	}
}

func TestNoCellOutsideTheMap(t *testing.T) {
	for _, s := range sizes {
		w, h := s[0], s[1]
		for _, n := range append([]int{w * h, w*h + 1}, odd...) {
			noCell(t, w, h, n)
		}
		for _, x := range append([]int{w, w + 1}, odd...) {
			for _, y := range []int{-1, 0, h - 1, h, math.MaxInt, math.MinInt} {
				if got := where.Cell(w, h, x, y); got != -1 {
					t.Errorf("Cell(%d, %d, %d, %d) = %d", w, h, x, y, got)
				}
			}
		}
		for _, y := range append([]int{h, h + 1}, odd...) {
			for _, x := range []int{-1, 0, w - 1, w, math.MaxInt, math.MinInt} {
				if got := where.Cell(w, h, x, y); got != -1 {
					t.Errorf("Cell(%d, %d, %d, %d) = %d", w, h, x, y, got)
				}
			}
		}
	}
}

// beside is what lies at North, East, South, West, Here of a cell, by the map's rows.
func beside(w, h, c int, f facts) [5]int {
	out := [5]int{c - w, c + 1, c + w, c - 1, c}
	for side, gone := range [4]bool{f.y == 0, f.x == w-1, f.y == h-1, f.x == 0} {
		if gone {
			out[side] = -1
		}
	}
	return out
}

func TestStepAndSideOfEachCell(t *testing.T) {
	for _, s := range sizes {
		w, h := s[0], s[1]
		cells, _, _, _ := survey(w, h)
		for c, f := range cells {
			for side, want := range beside(w, h, c, f) {
				if got := where.Step(w, h, c, side); got != want {
					t.Fatalf("Step(%d, %d, %d, %d) = %d, not %d", w, h, c, side, got, want)
				}
				if want < 0 {
					continue
				}
				if got := where.Side(w, h, c, want); got != side {
					t.Fatalf("Side(%d, %d, %d, %d) = %d, not %d", w, h, c, want, got, side)
				}
			}
		}
	}
}

func TestSideOfAllPairs(t *testing.T) {
	for _, s := range [][2]int{{1, 1}, {1, 7}, {7, 1}, {2, 2}, {2, 5}, {5, 4}, {17, 2}} {
		w, h := s[0], s[1]
		cells, _, _, _ := survey(w, h)
		for a, f := range cells {
			for b := -2; b <= w*h+1; b++ {
				want := api.None
				for side, n := range beside(w, h, a, f) {
					if n == b && b >= 0 {
						want = side
					}
				}
				if got := where.Side(w, h, a, b); got != want {
					t.Errorf("Side(%d, %d, %d, %d) = %d, not %d", w, h, a, b, got, want)
				}
			}
		}
	}
}

func TestSideDoesNotGoRoundARow(t *testing.T) {
	if got := where.Side(3, 3, 2, 3); got != api.None {
		t.Error("from a row's end to the next one's beginning:", got)
	}
	if got := where.Side(3, 3, 3, 2); got != api.None {
		t.Error("from a row's beginning to the last one's end:", got)
	}
	if got := where.Side(3, 3, 0, 4); got != api.None {
		t.Error("over a corner:", got)
	}
}

func TestStepTakesNoOtherSides(t *testing.T) {
	for _, side := range append([]int{api.None, 6, 7, 255, 256, 260}, odd...) {
		if got := where.Step(3, 3, 4, side); got != -1 {
			t.Errorf("Step(3, 3, 4, %d) = %d", side, got)
		}
	}
}

func TestBack(t *testing.T) {
	for side, want := range []int{api.South, api.West, api.North, api.East, api.Here, api.None} {
		if got := where.Back(side); got != want {
			t.Errorf("Back(%d) = %d, not %d", side, got, want)
		}
	}
	for _, side := range append([]int{6, 7, 255, 256}, odd...) {
		if got := where.Back(side); got != api.None {
			t.Errorf("Back(%d) = %d", side, got)
		}
	}
}

// 1.3

func TestSectorsAndSizes(t *testing.T) {
	for _, s := range sizes {
		w, h := s[0], s[1]
		_, rooms, across, down := survey(w, h)
		if a, d := where.Sectors(w, h); a != across || d != down {
			t.Errorf("Sectors(%d, %d) = %d, %d, not %d, %d", w, h, a, d, across, down)
		}
		for k, room := range rooms {
			if tw, th := where.Size(w, h, k); tw != room[0] || th != room[1] {
				t.Errorf("Size(%d, %d, %d) = %d, %d, not %v", w, h, k, tw, th, room)
			}
		}
		for _, n := range append([]int{len(rooms), len(rooms) + 1}, odd...) {
			noSector(t, w, h, n)
		}
	}
}

func TestSectorLocalAndGlobalOfEachCell(t *testing.T) {
	for _, s := range sizes {
		w, h := s[0], s[1]
		cells, rooms, _, _ := survey(w, h)
		for c, f := range cells {
			if got := where.Sector(w, h, c); got != f.sector {
				t.Fatalf("Sector(%d, %d, %d) = %d, not %d", w, h, c, got, f.sector)
			}
			if got := where.Local(w, h, c); got != f.local {
				t.Fatalf("Local(%d, %d, %d) = %d, not %d", w, h, c, got, f.local)
			}
			if got := where.Global(w, h, f.sector, f.local); got != c {
				t.Fatalf("Global(%d, %d, %d, %d) = %d, not %d", w, h, f.sector, f.local, got, c)
			}
		}
		for k, room := range rooms {
			for _, local := range append([]int{room[0] * room[1], room[0]*room[1] + 1}, odd...) {
				if got := where.Global(w, h, k, local); got != -1 {
					t.Errorf("Global(%d, %d, %d, %d) = %d", w, h, k, local, got)
				}
			}
		}
	}
}

func TestExampleOfTwentyByThree(t *testing.T) {
	if a, d := where.Sectors(20, 3); a != 2 || d != 1 {
		t.Error("Sectors:", a, d)
	}
	if tw, th := where.Size(20, 3, 1); tw != 4 || th != 3 {
		t.Error("Size:", tw, th)
	}
	if c := where.Cell(20, 3, 17, 2); c != 57 {
		t.Error("Cell:", c)
	}
	if k, l := where.Sector(20, 3, 57), where.Local(20, 3, 57); k != 1 || l != 9 {
		t.Error("Sector, Local:", k, l)
	}
	if c := where.Step(20, 3, 57, api.South); c != -1 {
		t.Error("Step:", c)
	}
}

// 1.4

func TestEachCellIsInOneSectorWithOneLocal(t *testing.T) {
	for _, s := range append([][2]int{{1024, 1024}, {1009, 1023}}, sizes...) {
		w, h := s[0], s[1]
		seen := make([]bool, w*h)
		a, d := where.Sectors(w, h)
		for k := range a * d {
			tw, th := where.Size(w, h, k)
			for l := range tw * th {
				c := where.Global(w, h, k, l)
				if c < 0 || c >= w*h || seen[c] {
					t.Fatalf("%v: sector %d, local %d: cell %d, which is none or was there already", s, k, l, c)
				}
				seen[c] = true
				if where.Sector(w, h, c) != k || where.Local(w, h, c) != l {
					t.Fatalf("%v: cell %d of sector %d, local %d goes back to %d, %d", s, c, k, l, where.Sector(w, h, c), where.Local(w, h, c))
				}
			}
		}
		for c, ok := range seen {
			if !ok {
				t.Fatalf("%v: cell %d is in no sector", s, c)
			}
		}
	}
}

func TestWhoIsBesideHasItBesideAtTheOtherSide(t *testing.T) {
	for _, s := range append([][2]int{{1024, 1024}}, sizes...) {
		w, h := s[0], s[1]
		pairs := 0
		for c := range w * h {
			for side := api.North; side <= api.Here; side++ {
				n := where.Step(w, h, c, side)
				if n < 0 {
					continue
				}
				pairs++
				if back := where.Step(w, h, n, where.Back(side)); back != c {
					t.Fatalf("%v: from %d by %d to %d, and back to %d", s, c, side, n, back)
				}
				if where.Side(w, h, c, n) != side || where.Side(w, h, n, c) != where.Back(side) {
					t.Fatalf("%v: %d and %d are not beside each other by %d", s, c, n, side)
				}
			}
		}
		if want := w*h + 2*(w-1)*h + 2*w*(h-1); pairs != want {
			t.Fatalf("%v: %d pairs, not %d", s, pairs, want)
		}
	}
}
